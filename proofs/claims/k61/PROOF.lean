import PyProof.Rows.All
import Wide.All
import OpenK.AllK
import PySem.Challenge.RW_liftwave_k61_whole_one_picture
open Array(length_toList size_append toList_append)
open Bool(and_eq_true false_eq_true)
open Int(ediv_nonneg ediv_one emod_nonneg mul_assoc mul_left_comm mul_neg mul_nonneg mul_one natCast_mul neg_le_neg neg_mul neg_neg one_mul toNat_natCast toNat_of_nonneg zero_add)
open List(all_cons all_eq_true any_eq_true append_assoc append_inj' append_nil cons_append dropLast_concat ext_getElem ext_getElem? filterMap_cons_some filter_cons flatMap_cons flatten_cons foldl_append foldl_cons foldl_nil forIn_cons forall_mem_append forall_mem_cons forall_mem_singleton getD_eq_getElem?_getD getElem?_append_left getElem?_append_right getElem?_cons_succ getElem?_drop getElem?_eq_getElem getElem?_eq_none getElem?_map getElem?_range getElem?_reverse getElem?_set getElem?_set_ne getElem?_set_self getElem_mem getLastD_concat length_append length_cons length_drop length_map length_nil length_range length_replicate length_reverse length_set length_singleton length_take length_zip lookup_cons map_append map_congr_left map_cons map_id map_id'' map_map map_nil map_replicate map_reverse mem_append mem_append_left mem_append_right mem_cons mem_cons_of_mem mem_cons_self mem_filter mem_iff_getElem? mem_map mem_nil_iff mem_of_getElem? mem_of_mem_take mem_range mem_replicate mem_reverse mem_singleton nil_append nodup_append nodup_cons nodup_nil not_mem_nil of_mem_zip range_succ replicate_succ reverse_append reverse_cons set_cons_succ set_cons_zero size_toArray sum_append take_add_one take_append_drop take_length take_of_length_le take_succ_eq_append_getElem take_take zip_cons_cons)
open Nat(add_zero le_add_right le_of_eq le_succ le_trans lt_irrefl lt_of_lt_of_le lt_or_ge min_eq_left min_self mul_le_mul mul_le_mul_left mul_mod_left mul_pos ne_of_gt ne_of_lt not_lt_zero pow_le_pow_right succ_mul two_pow_pos zero_le zero_mul)
open Option(getD_none getD_some map_some)
open PySem(boot_len)
open PySem.F(plainAttrs_list slot_list_extend type_list_extend)
open PySem.Heap(get?_push_of_some get?_push_size get?_update_other get?_update_self lt_size size_push)
open PySem.W(Frag binds_K callWith_K codeIn emptyDict findIn fnOf handedIn hasDictIn instObj isFn keepIn kia_one kitOne kitx_dict kitx_list kitx_tuple lookIn makesIn methodObj mg_of nsIn plainGet plainGet_of plainOver takerIn)
set_option Elab.async false
set_option compiler.extract_closed false
set_option bootstrap.genMatcherCode false
set_option linter.all false
set_option maxRecDepth 100000
namespace L2
open PySem PySem.Spec PyProof.Rows
abbrev Key:=Sum Int Str
def Yk5:Key->Value->Bool
 | .inl k,v=>Value.isInt k v
 | .inr x,v=>Value.isStrOf x v
def Ypn (w:World):Key->Int
 | .inl k=>hashInt k
 | .inr x=>hashStr w x
theorem Xcn:∀{k:Key} {v:Value},Yk5 k v=true->(∃i t,k=Sum.inl i/\v=Value.int i t)∨(∃x t,k=Sum.inr x/\v=Value.str x t)
 | .inl i,v,h=>by
  obtain⟨t,e⟩:=Value.isInt_shape (k:=i) (v:=v) h
  exact .inl ⟨i,t,rfl,e⟩
 | .inr x,v,h=>by
  obtain⟨t,e⟩:=Value.isStrOf_shape (x:=x) (v:=v) h
  exact .inr ⟨x,t,rfl,e⟩
theorem Yk4 (a b:Int):decide ((Sum.inl a:Key)=Sum.inl b)=(a==b):=by
 by_cases e:a=b
 .subst e;simp
 .have h:¬ (Sum.inl a:Key)=Sum.inl b:=λq=>e (Sum.inl.inj q)
  rw[decide_eq_false h]
  exact (beq_eq_false_iff_ne.mpr e).symm
theorem Yk1 (a b:Str):decide ((Sum.inr a:Key)=Sum.inr b)=decide (a=b):=by
 by_cases e:a=b
 .subst e;simp
 .have h:¬ (Sum.inr a:Key)=Sum.inr b:=λq=>e (Sum.inr.inj q)
  rw[decide_eq_false h,decide_eq_false e]
theorem Yk3 (a:Int)(b:Str):decide ((Sum.inl a:Key)=Sum.inr b)=false:=decide_eq_false (λq=>nomatch q)
theorem Yk2 (a:Str)(b:Int):decide ((Sum.inr a:Key)=Sum.inl b)=false:=decide_eq_false (λq=>nomatch q)
def Xur (prog:Program)(w:World):PySem.KeyKind prog w Key where
 is:=Yk5
 hash:=Ypn w
 inj := λv a b ha hb=>by
  rcases Xcn ha with⟨i,t,rfl,rfl⟩ | ⟨x,t,rfl,rfl⟩
  .rcases Xcn hb with⟨j,u,rfl,e⟩ | ⟨y,u,rfl,e⟩
   .injection e with e1 _;rw[e1]
   .exact nomatch e
  .rcases Xcn hb with⟨j,u,rfl,e⟩ | ⟨y,u,rfl,e⟩
   .exact nomatch e
   .injection e with e1 _;rw[e1]
 byValue:=λk v h=>by
  rcases Xcn h with⟨i,t,rfl,rfl⟩ | ⟨x,t,rfl,rfl⟩<;>rfl
 pyHash:=λhv h=>by
  rcases Xcn hv with⟨i,t,rfl,rfl⟩ | ⟨x,t,rfl,rfl⟩
  .exact wpAny_pyHash_int h
  .exact wpAny_pyHash_str h
 eqBool:=λhu hv h=>by
  rcases Xcn hu with⟨i,t,rfl,rfl⟩ | ⟨x,t,rfl,rfl⟩
  .rcases Xcn hv with⟨j,u,rfl,rfl⟩ | ⟨y,u,rfl,rfl⟩
   .rw [Yk4]at h;exact wpAny_eqBool_int h
   .rw [Yk3]at h;exact SeqAt.EqAt.int_str i t y u _ _ _ _ h
  .rcases Xcn hv with⟨j,u,rfl,rfl⟩ | ⟨y,u,rfl,rfl⟩
   .rw [Yk2]at h;exact SeqAt.EqAt.str_int x t j u _ _ _ _ h
   .rw [Yk1]at h;exact wpAny_eqBool_str h
 «strs»:=λk x t v h=>by
  rcases Xcn h with⟨i,u,rfl,e⟩ | ⟨y,u,rfl,e⟩
  .exact nomatch e
  .injection e with e1 _
   subst e1
   cases v<;>rfl
inductive V where
 |non |bl (b:Bool) |int (i:Int) |str (x:Str) |byt (b:Array UInt8) |flt (b:UInt64) |ref (a:Addr) |ty (n:String)
 deriving DecidableEq
def Xd3:V->Value->Prop
 | .non,u=>u=Value.none
 | .bl b,u=>u=Value.bool b
 | .int i,u=>∃t,u=Value.int i t
 | .str x,u=>∃t,u=Value.str x t
 | .byt b,u=>∃t,u=Value.bytes b t
 | .flt b,u=>∃t,u=Value.float b t
 | .ref a,u=>u=Value.ref a
 | .ty n,u=>u=Value.type n
abbrev Xcd:List V->List Value->Prop:=Paired Xd3
theorem Xcd.length {xs:List V}{us:List Value}(r:Xcd xs us):xs.length=us.length:=Paired.length r
theorem Xcd.get:∀{xs:List V} {us:List Value} {i:Nat} {x:V},Xcd xs us->xs[i]?=some x->∃u,us[i]?=some u/\Xd3 x u
 |_,_,_,_,.nil,e=>by simp at e
 |_,_,0,_,.cons r _,e=>by simp at e;subst e;exact⟨_,rfl,r⟩
 |_,_,i+1,x,.cons _ t,e=>by
  obtain⟨u,h1,h2⟩:=Xcd.get (i:=i) (x:=x) t (by simpa using e)
  exact⟨u,by simpa using h1,h2⟩
theorem Xcd.set {x:V}{u:Value}(r:Xd3 x u):∀{xs:List V} {us:List Value} (i:Nat),Xcd xs us->Xcd (xs.set i x) (us.set i u)
 |_,_,_,.nil=>.nil
 |_,_,0,.cons _ t=>.cons r t
 |_,_,i+1,.cons q t=>.cons q (Xcd.set r i t)
theorem Xcd.append:∀{xs ys:List V} {us ws:List Value},Xcd xs us->Xcd ys ws->Xcd (xs++ys) (us++ws)
 |_,_,_,_,.nil,s=>s
 |_,_,_,_,.cons r t,s=>.cons r (Xcd.append t s)
theorem Xcd.take:∀{xs:List V} {us:List Value} (n:Nat),Xcd xs us->Xcd (xs.take n) (us.take n)
 |_,_,0,_=>.nil
 |_,_,_+1,.nil=>.nil
 |_,_,n+1,.cons r t=>.cons r (Xcd.take n t)
theorem Xcd.drop:∀{xs:List V} {us:List Value} (n:Nat),Xcd xs us->Xcd (xs.drop n) (us.drop n)
 |_,_,0,r=>r
 |_,_,_+1,.nil=>.nil
 |_,_,n+1,.cons _ t=>Xcd.drop n t
def Ycf:Option V->Option Value->Prop
 |some v,some u=>Xd3 v u
 |none,none=>True
 |_,_=>False
def KV {κ:Type}:List (κ×V)->List (κ×Value)->Prop:=Paired λ(p:κ×V) (q:κ×Value)=>p.1=q.1/\Xd3 p.2 q.2
def kV:Key->V
 | .inl i=>.int i
 | .inr x=>.str x
inductive HO where
  |lst (xs:List V)
  |tup (xs:List V)
  |dK (kvs:List (Key×V)) |dT (kvs:List (List Key×V))
  |set (S:Int->Bool) (n:Nat)
  |ins (C dx:Addr) (fs:List (Str×V))
  |own (x:Addr)
  |xd (fs:List (Str×V))
  |met (f x:Addr)
  |rng (lo hi:Int)
  |frz (o:Obj) (u:HO)
  |tbl (ps:Array Value)
  |ext (φ:Heap->Prop)
abbrev Hp:=Addr->Option HO
def upd (H:Hp)(a:Addr)(o:HO):Hp:=λb=>if b=a then some o else H b
theorem Xa3 {H:Hp}{a:Addr}{o:HO}:upd H a o a=some o:=by unfold upd;rw[if_pos rfl]
theorem Xcp {H:Hp}{a b:Addr}{o:HO}(h:b≠a):upd H a o b=H b:=by unfold upd;rw[if_neg h]
theorem Xe9 {H:Hp}{a b:Addr}{o:HO}(h:H a=some o)(h':H b=none):a≠b:=by
 intro e;subst e;rw[h]at h';cases h'
section
variable (P:Program)(w:World)
def Xgt (H:Hp)(h:Heap)(a:Addr):HO->Prop
 | .lst xs=>xs.length<=sizeLine/\∃(its:List Value) (n:Nat),Xcd xs its/\h.get? a=some {cls:=.type "list",data:=.seq its.toArray n}
 | .tup xs=>xs.length<=sizeLine/\∃its:List Value,Xcd xs its/\IsTup h a its.toArray
 | .dK kvs=>kvs.length<=sizeLine/\(a==sysModules)=false/\∃vs,KV kvs vs/\h.DictOf (Xur P w) a vs
 | .dT kvs=>kvs.length<=sizeLine/\(a==sysModules)=false/\∃xs:List (List Key×Addr×Value),
   Paired (λ(p:List Key×V) (q:List Key×Addr×Value)=>p.1=q.1/\H q.2.1=some (.tup (p.1.map kV))/\Xd3 p.2 q.2.2) kvs xs/\
   ∃o es ep,h.get? a=some o/\o.ExactDict/\o.data = .dict es ep/\es.toList=xs.map (entryOfKey (tupleKind (Xur P w)))/\(xs.map (·.1)).Nodup
 | .set S n=>h.SetOf (intKind P w) a S n
 | .ins C dx fs=>H dx=some (.own a)/\fs.length<=1000/\dx≠a/\h.get? a=some (instObj C dx)/\
   ∃mA,h.Ns1 dx mA/\(∀f,Ycf (fs.lookup f) (mA f))/\PySem.Within mA (fs.map (·.1))
 | .own _=>∃o,h.get? a=some o
 | .xd fs=>∃mA,h.Ns1 a mA/\∀f,Ycf (fs.lookup f) (mA f)
 | .rng lo hi=>∃t u v,h.get? a=some {cls:=.type "range",data:=.fields #[.int lo t,.int hi u,.int 1 v]}
 | .frz o u=>h.get? a=some o/\Xgt H h a u
 | .tbl ps=>h.get? a=some {cls:=.none,data:=.fields ps}
 | .met f x=>h.get? a=some (methodObj (.ref f) (.ref x))
 | .ext φ=>φ h/\(∃o,h.get? a=some o)/\∀h1 h2:Heap,φ h1->(∀o,h1.get? a=some o->h2.get? a=some o)->φ h2
def HOk (H:Hp)(h:Heap):Prop:=∀a o,H a=some o->Xgt P w H h a o
end
section
variable {P:Program}{w:World}{H H':Hp}{h h':Heap}{a:Addr}{o:HO}
theorem Xgt.lt (x:Xgt P w H h a o):a<h.objs.size:=by
 cases o with
 |lst xs=>obtain⟨_,_,_,_,e⟩:=x;exact lt_size e
 |tup xs=>obtain⟨_,_,_,p⟩:=x;exact p.lt
 |dK kvs=>obtain⟨_,_,_,_,o,_,_,e,_⟩:=x;exact lt_size e
 |dT kvs=>obtain⟨_,_,_,_,o,_,_,e,_⟩:=x;exact lt_size e
 |set S n=>obtain⟨o,_,_,_,e,_⟩:=x;exact lt_size e
 |ins C dx fs=>obtain⟨_,_,_,e,_⟩:=x;exact lt_size e
 |own y=>obtain⟨_,e⟩:=x;exact lt_size e
 |xd fs=>obtain⟨_,⟨_,_,_,e,_⟩,_⟩:=x;exact lt_size e
 |rng lo hi=>obtain⟨_,_,_,e⟩:=x;exact lt_size e
 |frz ob u=>obtain⟨e,_⟩:=x;exact lt_size e
 |tbl ps=>exact lt_size (show h.get? a=some _ from x)
 |met f y=>exact lt_size (show h.get? a=some _ from x)
 |ext φ=>obtain⟨_,⟨_,e⟩,_⟩:=x;exact lt_size e
theorem Paired.mapP {α β:Type}{F G:α->β->Prop}:∀{l₁:List α} {l₂:List β},Paired F l₁ l₂->(∀a b,F a b->G a b)->Paired G l₁ l₂
 |_,_,.nil,_=>.nil
 |_,_,.cons r t,f=>.cons (f _ _ r) (Paired.mapP t f)
theorem Xgt.stay (x:Xgt P w H h a o)(k:∀b u,(b=a∨H b=some (.own a))->h.get? b=some u->h'.get? b=some u)
  (ho:∀b,H b=some (.own a)->H' b=some (.own a)) (ht:∀b xs,H b=some (.tup xs)->H' b=some (.tup xs)):Xgt P w H' h' a o:=by
 induction o with
 |lst xs=>obtain⟨z,its,n,r,e⟩:=x;exact⟨z,its,n,r,k _ _ (.inl rfl) e⟩
 |tup xs=>obtain⟨z,its,r,ob,e,c⟩:=x;exact⟨z,its,r,ob,k _ _ (.inl rfl) e,c⟩
 |dK kvs=>obtain⟨z,y,vs,r,ob,es,ep,e,c⟩:=x;exact⟨z,y,vs,r,ob,es,ep,k _ _ (.inl rfl) e,c⟩
 |dT kvs=>
  obtain⟨z,y,xs,r,ob,es,ep,e,c⟩:=x
  exact⟨z,y,xs,Paired.mapP r λp q z=>⟨z.1,ht _ _ z.2.1,z.2.2⟩,ob,es,ep,k _ _ (.inl rfl) e,c⟩
 |set S n=>obtain⟨ob,es,ep,t,e,c⟩:=x;exact⟨ob,es,ep,t,k _ _ (.inl rfl) e,c⟩
 |ins C dx fs=>
  obtain⟨d,z,ne,e,mA,⟨od,es,ep,e2,c⟩,r⟩:=x
  exact⟨ho _ d,z,ne,k _ _ (.inl rfl) e,mA,⟨od,es,ep,k _ _ (.inr d) e2,c⟩,r⟩
 |own y=>obtain⟨ob,e⟩:=x;exact⟨ob,k _ _ (.inl rfl) e⟩
 |xd fs=>obtain⟨mA,⟨od,es,ep,e,c⟩,r⟩:=x;exact⟨mA,⟨od,es,ep,k _ _ (.inl rfl) e,c⟩,r⟩
 |rng lo hi=>obtain⟨t,u,v,e⟩:=x;exact⟨t,u,v,k _ _ (.inl rfl) e⟩
 |frz ob u ih=>obtain⟨e,q⟩:=x;exact⟨k _ _ (.inl rfl) e,ih q⟩
 |tbl ps=>
  have e:h.get? a=some {cls:=.none,data:=.fields ps}:=x
  show h'.get? a=some {cls:=.none,data:=.fields ps}
  exact k a _ (.inl rfl) e
 |met f y=>
  have e:h.get? a=some (methodObj (.ref f) (.ref y)):=x
  show h'.get? a=some (methodObj (.ref f) (.ref y))
  exact k a _ (.inl rfl) e
 |ext φ=>obtain⟨p,⟨o,e⟩,st⟩:=x;exact⟨st _ _ p λo q=>k _ _ (.inl rfl) q,⟨o,k _ _ (.inl rfl) e⟩,st⟩
theorem HOk.lt (x:HOk P w H h)(e:H a=some o):a<h.objs.size:=(x a o e).lt
theorem HOk.fresh (x:HOk P w H h)(e:h.objs.size<=a):H a=none:=by
 cases q:H a with
 |none=>rfl
 |some u=>exact absurd (lt_of_lt_of_le (x.lt q) e) (lt_irrefl _)
theorem HOk.kept (x:HOk P w H h)(k:∀b u,h.get? b=some u->h'.get? b=some u):HOk P w H h':=λa o e=>
 (x a o e).stay (λb u _ q=>k b u q) (λ_ q=>q) λ_ _ q=>q
theorem HOk.laid (x:HOk P w H h)(k:∀b u,h.get? b=some u->h'.get? b=some u)(hp:h.objs.size<=a)(new:Xgt P w (upd H a o) h' a o):HOk P w (upd H a o) h':=λb u e=>by
 have hn:=x.fresh hp
 by_cases hb:b=a
 .subst hb;rw[Xa3]at e;cases e;exact new
 .rw [Xcp hb]at e
  exact (x b u e).stay (λc v _ q=>k c v q) (λc q=>by rw[Xcp (Xe9 q hn)];exact q) λc xs q=>by rw[Xcp (Xe9 q hn)];exact q
end
def Rd (H:Hp)(a:Addr)(u:HO):Prop:=H a=some u∨∃o,H a=some (.frz o u)
theorem Rd.ok {P:Program}{w:World}{H:Hp}{h:Heap}{a:Addr}{u:HO}(r:Rd H a u)(x:HOk P w H h):Xgt P w H h a u:=by
 rcases r with r | ⟨o,r⟩
 .exact x a u r
 .obtain ⟨_,q⟩:=x a _ r
  exact q
def Mut:Option HO->Prop
 |some (.lst _)=>True
 |some (.dK _)=>True
 |some (.dT _)=>True
 |some (.set _ _)=>True
 |some (.ins _ _ _)=>True
 |some (.ext _)=>True
 |_=>False
section
variable {P:Program}{w:World}{H:Hp}{h h':Heap}{x e:Addr}{o':HO}
theorem HOk.write (ok:HOk P w H h)(mu:Mut (H x))(he:e=x∨H e=some (.own x))(k:∀b u,b≠e->h.get? b=some u->h'.get? b=some u)(heo:∃u,h'.get? e=some u)
  (new:Xgt P w (upd H x o') h' x o'):HOk P w (upd H x o') h':=λb u q=>by
 have nown:∀c y,H c=some (.own y)->c≠x:=λc y r z=>by subst z;rw[r]at mu;exact mu
 have ntup:∀c xs,H c=some (.tup xs)->c≠x:=λc xs r z=>by subst z;rw[r]at mu;exact mu
 by_cases hb:b=x
 .subst hb;rw[Xa3]at q;cases q;exact new
 .rw [Xcp hb]at q
  by_cases hbe:b=e
  .have q':H b=some (.own x):=by
    rcases he with z |z
    .exact absurd (hbe.trans z) hb
    .rw [hbe];exact z
   rw[q]at q';cases q'
   obtain⟨v,hv⟩:=heo
   exact⟨v,by rw[hbe];exact hv⟩
  .refine (ok b u q).stay (λc v hc r=>k c v ?_ r) (λc r=>by rw[Xcp (nown c b r)];exact r) λc xs r=>by rw[Xcp (ntup c xs r)];exact r
   rcases hc with rfl |hc
   .exact hbe
   .rintro rfl
    rcases he with z |z
    .exact nown c b hc z
    .rw [hc]at z;cases z;exact hb rfl
end
structure Un (fs ex:List Addr) (H H':Hp) (h h':Heap):Prop where
 keep:∀b o,h.get? b=some o->H b=none->b∉fs->b∉ex->h'.get? b=some o
 slot:∀b o,h.get? b=some o->H b=none->b∈fs->b∉ex->∃sl,h'.get? b=some {o with slots:=sl}
 free:∀b o,h.get? b=some o->H b=none->b∉ex->H' b=none
 there:∀b o,h.get? b=some o->b∉ex->∃o',h'.get? b=some o'
 tups:∀b xs,H b=some (.tup xs)->H' b=some (.tup xs)
 frzs:∀b o u,H b=some (.frz o u)->H' b=some (.frz o u)
 tbls:∀b ps,H b=some (.tbl ps)->∃more,H' b=some (.tbl (ps++more))
section
variable {fs fs' ex ex':List Addr}{H H1 H2:Hp}{h h1 h2 h':Heap}{a x e:Addr}{o:HO}
theorem Un.any (u:Un fs ex H H1 h h1){b:Addr}{ob:Obj}(q:h.get? b=some ob)(n:H b=none)(hx:b∉ex):∃sl,h1.get? b=some {ob with slots:=sl}:=by
 by_cases hb:b∈fs
 .exact u.slot b ob q n hb hx
 .exact ⟨ob.slots,u.keep b ob q n hb hx⟩
theorem Un.kept (k:∀b u,h.get? b=some u->h'.get? b=some u):Un fs ex H H h h':=
 ⟨λb ob q _ _ _=>k b ob q,λb ob q _ _ _=>⟨ob.slots,k b ob q⟩,λ_ _ _ n _=>n,λb ob q _=>⟨ob,k b ob q⟩,λ_ _ q=>q,λ_ _ _ q=>q,λ_ ps q=>⟨#[],by rw[q];simp⟩⟩
theorem Un.refl:Un fs ex H H h h:=Un.kept λ_ _ q=>q
theorem Un.laid (k:∀b u,h.get? b=some u->h'.get? b=some u)(hp:h.objs.size<=a)(hn:H a=none):Un fs ex H (upd H a o) h h' where
 keep:=λb u q _ _ _=>k b u q
 slot:=λb u q _ _ _=>⟨u.slots,k b u q⟩
 free:=λb u q n _=>by rw[Xcp (ne_of_lt (lt_of_lt_of_le (lt_size q) hp))];exact n
 there:=λb u q _=>⟨u,k b u q⟩
 tups:=λb xs q=>by rw[Xcp (Xe9 q hn)];exact q
 frzs:=λb u xs q=>by rw[Xcp (Xe9 q hn)];exact q
 tbls:=λb ps q=>⟨#[],by rw[Xcp (Xe9 q hn),q];simp⟩
theorem Un.write (mu:Mut (H x))(he:e=x∨H e=some (.own x))(k:∀b u,b≠e->h.get? b=some u->h'.get? b=some u)(heo:∃u,h'.get? e=some u):Un fs ex H (upd H x o) h h':=by
 have hx:∀b,H b=none->b≠x:=λb n z=>by subst z;rw[n]at mu;exact mu
 have hb:∀b,H b=none->b≠e:=λb n z=>by
  subst z
  rcases he with r |r
  .exact hx b n r
  .rw [n]at r;cases r
 have hm:∀b u,H b=some u->¬ Mut (some u)->b≠x:=λb u q nm z=>by subst z;rw[q]at mu;exact nm mu
 refine⟨λb u q n _ _=>k b u (hb b n) q,λb u q n _ _=>⟨u.slots,k b u (hb b n) q⟩,λb u q n _=>by rw[Xcp (hx b n)];exact n,λb u q _=>?_,
  λb xs q=>by rw[Xcp (hm b _ q λz=>z)];exact q,λb u xs q=>by rw[Xcp (hm b _ q λz=>z)];exact q,λb ps q=>⟨#[],by rw[Xcp (hm b _ q λz=>z),q];simp⟩⟩
 by_cases hbe:b=e
 .subst hbe;exact heo
 .exact ⟨u,k b u hbe q⟩
end
def trk (h:Heap)(H:Hp):List Addr:=(List.range h.objs.size).filter λa=>(H a).isSome
def Yed (h:Heap)(H:Hp):Heap:=PySem.W.hideAll h (trk h H)
theorem Ybh (h:Heap)(H:Hp):(Yed h H).objs.size=h.objs.size:=PySem.W.hideAll_size _ _
theorem Yec {h:Heap}{H:Hp}{b:Addr}{o:Obj}(e:h.get? b=some o)(n:H b=none):(Yed h H).get? b=some o:=
 PySem.W.hideAll_get _ e λhm=>by
  have q:(H b).isSome=true:=(mem_filter.mp hm).2
  rw[n]at q;simp at q
theorem Yh1 {h:Heap}{H:Hp}{b:Addr}{o:Obj}(e:(Yed h H).get? b=some o):h.get? b=some o/\H b=none:=by
 have e':h.get? b=some o:=PySem.W.of_hideAll (trk h H) e
 refine⟨e',?_⟩
 cases q:H b with
 |none=>rfl
 |some x=>
  have hm:b∈trk h H:=mem_filter.mpr ⟨mem_range.mpr (lt_size e'),by simp[q]⟩
  have z:(Yed h H).get? b=none:=PySem.W.hideAll_none (trk h H) hm
  rw[z]at e;cases e
def Yi6 (g h:Heap)(L:Addr):List (Addr×Obj):=(List.range h.objs.size).filterMap λa=>if a=L∨(g.get? a).isSome=true then none else (h.get? a).map λo=>(a,o)
def Xht (g h:Heap)(L d:Addr):List (Addr×Obj):=(Yi6 g h L).filter λp=>decide (p.1≠d)
structure Mod (K:Frag) (mg:Str->Option Value) (base:Heap):Prop where
 kin:K.In base
 glob:base.Ns mainGlobals mg
 blt:∃mb,base.Ns builtinsNs mb/\∀x:Str,x ≠ "__name__"->mb x=bootBuiltins x
 nolimit:base.NoLimit
structure Cx where
 prog:Program
 w:World
 K:Frag
 mg:Str->Option Value
 base:Heap
 A:Around
 N:List Str
 s₀:Shared
 H₀:Hp
 env:Env
 outer:List Env
 stack:List Env
 ex:List Addr
 fn:Str->Bool
 calm:Bool
 pn:List (Addr×Obj)
 xe:Value->Shared->Prop
def frs (l:List Env):List Addr:=l.filterMap (·.frame)
abbrev Cx.fs (X:Cx):List Addr:=frs X.outer
def Vis (sc:Scope)(x:Str):Prop:=sc.names.lookup x=some .local∨sc.names.lookup x=some .cell∨sc.names.lookup x=some .free
def Loc (sc:Scope)(x:Str):Prop:=sc.names.lookup x=some .local∨sc.names.lookup x=some .cell
def Yps (env:Env)(h:Heap)(m:Str->Option Value)(x:Str)(u:Value):Prop:=
 (env.kindOf x=some .local/\m x=some u)∨((env.kindOf x=some .cell∨env.kindOf x=some .free)/\∃c,env.cells.lookup x=some c/\h.IsCell c (some u))
structure Cx.Ok (X:Cx):Prop where
 mod:Mod X.K X.mg X.base
 kind:X.env.scope.kind = .function
 glob:X.env.globals=mainGlobals
 blt:X.env.builtins=builtinsNs
 above:X.s₀.heap.objs.size<=X.env.locals
 inj:∀x y c,X.env.cells.lookup x=some c->X.env.cells.lookup y=some c->x=y
 has:∀x,(X.env.kindOf x=some .cell∨X.env.kindOf x=some .free)->∃c,X.env.cells.lookup x=some c
 cab:∀x c,X.fn x=true->X.env.cells.lookup x=some c->X.s₀.heap.objs.size<=c
 hd:X.calm=true->X.A.handled=none
 frames:X.A.frames=some X.stack
 stk:X.stack=X.outer∨(X.stack=X.env::X.outer/\X.env.frame=some X.env.locals)
 exf:∀b∈X.ex,b≠X.env.locals/\∀x c,X.env.cells.lookup x=some c->c≠b
 bs:∀b o,X.base.get? b=some o->X.s₀.heap.get? b=some o/\X.H₀ b=none
 bsz:X.base.objs.size<=X.s₀.heap.objs.size
 noex:∀b o,X.base.get? b=some o->b∉X.ex
 exfs:∀b∈X.ex,b∉X.fs
 funs:X.s₀.heap.FunFrames X.base X.outer
 frf:∀b∈X.fs,X.H₀ b=none
structure Inv (X:Cx) (pins:List (Addr×Obj)) (Y:List (Option V)) (H:Hp) (s:Shared):Prop where
 ok:X.Ok
 os:s.os=X.s₀.os
 bare:AllBare s.gens
 base:Un X.fs X.ex X.H₀ H X.s₀.heap s.heap
 loc:∃m,s.heap.Ns X.env.locals m/\∀(i:Nat) (x:Str) (v:V),X.N[i]?=some x->Y[i]?=some (some v)->Vis X.env.scope x->∃u,Xd3 v u/\Yps X.env s.heap m x u
 cell:∀x c,X.env.cells.lookup x=some c->∃v,s.heap.IsCell c v
 free:H X.env.locals=none
 freeC:∀x c,X.env.cells.lookup x=some c->H c=none
 pin:∀p∈X.pn++pins,s.heap.get? p.1=some p.2/\H p.1=none/\p.1≠X.env.locals/\p.1∉X.fs/\∀v,p.2.data≠.cell v
 hok:HOk X.prog X.w H s.heap
 len:Y.length=X.N.length
section
variable {X:Cx}{pins:List (Addr×Obj)}{Y:List (Option V)}{H H':Hp}{s:Shared}{h':Heap}
theorem Cx.Ok.nofr (ok:X.Ok){b:Addr}{o:Obj}(e:X.base.get? b=some o):b∉X.fs:=λhb=>by
 have:=(ok.funs.mem hb).1
 rw[e]at this;cases this
theorem Inv.bs (I:Inv X pins Y H s):∀b o,X.base.get? b=some o->s.heap.get? b=some o/\H b=none:=λb o e=>
 ⟨I.base.keep b o (I.ok.bs b o e).1 (I.ok.bs b o e).2 (I.ok.nofr e) (I.ok.noex b o e),I.base.free b o (I.ok.bs b o e).1 (I.ok.bs b o e).2 (I.ok.noex b o e)⟩
theorem Inv.bk (I:Inv X pins Y H s):∀b o,X.base.get? b=some o->s.heap.get? b=some o:=λb o e=>(I.bs b o e).1
theorem Inv.mod (I:Inv X pins Y H s):Mod X.K X.mg X.base:=I.ok.mod
theorem Inv.kIn (I:Inv X pins Y H s):X.K.In s.heap:=I.ok.mod.kin.keeps I.bk
theorem Inv.nolimit (I:Inv X pins Y H s):s.heap.NoLimit:=I.ok.mod.nolimit.keeps I.bk
theorem Inv.lt (I:Inv X pins Y H s):X.env.locals<s.heap.objs.size:=let⟨_,hn,_⟩:=I.loc;hn.lt
theorem Inv.sz (I:Inv X pins Y H s):X.s₀.heap.objs.size<=s.heap.objs.size:=le_trans I.ok.above (Nat.le_of_lt I.lt)
theorem Inv.nofs (I:Inv X pins Y H s){a:Addr}(h:s.heap.objs.size<=a):a∉X.fs:=λhb=>by
 obtain⟨_,o,ho,_⟩:=I.ok.funs.mem hb
 exact absurd (lt_of_lt_of_le (lt_size ho) (le_trans I.sz h)) (lt_irrefl _)
theorem Inv.cne (I:Inv X pins Y H s):∀x c,X.env.cells.lookup x=some c->c≠X.env.locals:=λx c e z=>by
 obtain⟨v,o,ho,hd⟩:=I.cell x c e
 obtain⟨m,⟨o',es,ep,ho',hd',_⟩,_⟩:=I.loc
 rw[z,ho']at ho;cases ho;rw[hd']at hd;cases hd
theorem Inv.funs (I:Inv X pins Y H s):s.heap.FunFrames X.base X.outer:=by
 have all:∀(l:List Env),(∀b∈frs l,b∈X.fs)->X.s₀.heap.FunFrames X.base l->s.heap.FunFrames X.base l:=by
  intro l
  induction l with
  |nil=>intro _ _;trivial
  |cons env r ih=>
   intro hs hl
   obtain⟨hk,⟨L,o,hf,hn,ho,hd⟩,hr⟩:=hl
   have hL:L∈X.fs:=hs L (by unfold frs;rw[List.filterMap_cons,hf];exact mem_cons_self)
   obtain⟨sl,e⟩:=I.base.slot L o ho (I.ok.frf L hL) hL λz=>I.ok.exfs L z hL
   exact⟨hk,⟨L,_,hf,hn,e,hd⟩,ih (λb hb=>hs b (by unfold frs;rw[List.filterMap_cons,hf];exact mem_cons_of_mem _ hb)) hr⟩
 exact all X.outer (λ_ hb=>hb) I.ok.funs
theorem Inv.stack (I:Inv X pins Y H s):s.heap.FunFrames X.base X.stack:=by
 rcases I.ok.stk with e | ⟨e,hf⟩
 .rw [e];exact I.funs
 .rw [e]
  obtain⟨m,hn,_⟩:=I.loc
  refine .cons (by rw[I.ok.kind];decide) hf hn ?_ I.funs
  exact Heap.get?_none_of_le (le_trans I.ok.bsz I.ok.above)
theorem Inv.stkSub (I:Inv X pins Y H s):∀b∈frs X.stack,b∈X.env.locals::X.fs:=λb hb=>by
 rcases I.ok.stk with e | ⟨e,hf⟩
 .rw [e]at hb;exact mem_cons_of_mem _ hb
 .rw [e]at hb
  unfold frs at hb
  rw[List.filterMap_cons,hf]at hb
  exact hb
theorem Inv.stkFree (I:Inv X pins Y H s):∀b∈frs X.stack,H b=none:=λb hb=>by
 rcases mem_cons.mp (I.stkSub b hb) with e |hb
 .rw [e];exact I.free
 .obtain ⟨_,o,ho,_⟩:=I.ok.funs.mem hb
  exact I.base.free b o ho (I.ok.frf b hb) λz=>I.ok.exfs b z hb
theorem Inv.step {g':Array GenState}{t':Nat}{d':Drawn}{ch:List Addr}(I:Inv X pins Y H s)
  (hch:∀b∈ch,(b∈X.ex∨X.s₀.heap.objs.size<=b)/\b≠X.env.locals/\(∀x c,X.env.cells.lookup x=some c->c≠b)/\∀p∈X.pn++pins,p.1≠b)
  (keep:∀b o,b≠X.env.locals->b∉X.fs->b∉ch->s.heap.get? b=some o->H b=none->h'.get? b=some o)
  (slot:∀b o,b≠X.env.locals->b∈X.fs->b∉ch->s.heap.get? b=some o->H b=none->∃sl,h'.get? b=some {o with slots:=sl}) (free:∀b o,b∉ch->s.heap.get? b=some o->H b=none->H' b=none)
  (there:∀b o,b∉ch->s.heap.get? b=some o->∃o',h'.get? b=some o')
  (tups:∀b xs,H b=some (.tup xs)->H' b=some (.tup xs)) (frzs:∀b o u,H b=some (.frz o u)->H' b=some (.frz o u)) (tbls:∀b ps,H b=some (.tbl ps)->∃more,H' b=some (.tbl (ps++more)))
  (ns:∀m,s.heap.Ns X.env.locals m->h'.Ns X.env.locals m) (hok:HOk X.prog X.w H' h') (hg:AllBare g'):
  Inv X pins Y H' {s with heap:=h',gens:=g',drawn:=d',toks:=t'}:=by
 have neL:∀b o,X.s₀.heap.get? b=some o->b≠X.env.locals:=λb o e=>ne_of_lt (lt_of_lt_of_le (lt_size e) I.ok.above)
 have neC:∀b o,X.s₀.heap.get? b=some o->b∉X.ex->b∉ch:=λb o e hx hb=>by
  rcases (hch b hb).1 with z |z
  .exact hx z
  .exact absurd (lt_of_lt_of_le (lt_size e) z) (lt_irrefl _)
 have cellK:∀x c,X.env.cells.lookup x=some c->∀v,s.heap.IsCell c v->h'.IsCell c v:=λx c e v ⟨o,ho,hd⟩=>by
  have nch:c∉ch:=λz=>(hch c z).2.2.1 x c e rfl
  by_cases hc:c∈X.fs
  .obtain ⟨sl,q⟩:=slot c o (I.cne x c e) hc nch ho (I.freeC x c e)
   exact⟨_,q,hd⟩
  .exact ⟨o,keep c o (I.cne x c e) hc nch ho (I.freeC x c e),hd⟩
 refine⟨I.ok,I.os,hg,⟨λb o e n hb hx=>?_,λb o e n hb hx=>?_,λb o e n hx=>?_,λb o e hx=>?_,λb xs e=>tups b xs (I.base.tups b xs e),λb o xs e=>frzs b o xs (I.base.frzs b o xs e),λb ps e=>?_⟩,?_,λx c e=>?_,?_,λx c e=>?_,λp hp=>?_,hok,I.len⟩
 .exact keep b o (neL b o e) hb (neC b o e hx) (I.base.keep b o e n hb hx) (I.base.free b o e n hx)
 .obtain ⟨sl,e1⟩:=I.base.slot b o e n hb hx
  obtain⟨sl',e2⟩:=slot b _ (neL b o e) hb (neC b o e hx) e1 (I.base.free b o e n hx)
  exact⟨sl',e2⟩
 .obtain ⟨o',e1⟩:=I.base.there b o e hx
  exact free b o' (neC b o e hx) e1 (I.base.free b o e n hx)
 .obtain ⟨o',e1⟩:=I.base.there b o e hx
  exact there b o' (neC b o e hx) e1
 .obtain ⟨m1,e1⟩:=I.base.tbls b ps e
  obtain⟨m2,e2⟩:=tbls b _ e1
  exact⟨m1++m2,by rw[e2,Array.append_assoc]⟩
 .obtain ⟨m,hn,hl⟩:=I.loc
  refine⟨m,ns m hn,λi x v e1 e2 e3=>?_⟩
  obtain⟨u,r,l⟩:=hl i x v e1 e2 e3
  refine⟨u,r,?_⟩
  rcases l with l | ⟨k,c,e,z⟩
  .exact .inl l
  .exact .inr ⟨k,c,e,cellK x c e _ z⟩
 .obtain ⟨v,z⟩:=I.cell x c e
  exact⟨v,cellK x c e v z⟩
 .obtain ⟨m,⟨o,_,_,ho,_⟩,_⟩:=I.loc
  exact free _ o (λz=>(hch _ z).2.1 rfl) ho I.free
 .obtain ⟨v,o,ho,hd⟩:=I.cell x c e
  exact free c o (λz=>(hch c z).2.2.1 x c e rfl) ho (I.freeC x c e)
 .obtain ⟨e,n,ne,nf,d⟩:=I.pin p hp
  have nch:p.1∉ch:=λz=>(hch p.1 z).2.2.2 p hp rfl
  exact⟨keep p.1 p.2 ne nf nch e n,free p.1 p.2 nch e n,ne,nf,d⟩
theorem Inv.un {t':Nat}(I:Inv X pins Y H s)(u:Un X.fs [] H H' s.heap h')(hok:HOk X.prog X.w H' h'):Inv X pins Y H' {s with heap:=h',toks:=t'}:=by
 obtain⟨m,⟨o,es,ep,ho,r⟩,_⟩:=id I.loc
 obtain⟨sl,hL⟩:=u.any ho I.free (by simp)
 exact I.step (g':=s.gens) (d':=s.drawn) (ch:=[]) (λ_ z=>nomatch z) (λb o _ hb _ e n=>u.keep b o e n hb (by simp)) (λb o _ hb _ e n=>u.slot b o e n hb (by simp)) (λb o _ e n=>u.free b o e n (by simp)) (λb o _ e=>u.there b o e (by simp)) u.tups u.frzs u.tbls (λm' hm=>by
  obtain⟨o',es',ep',ho',r'⟩:=hm
  rw[ho]at ho';cases ho'
  exact⟨_,es',ep',hL,r'⟩) hok I.bare
theorem Inv.call {g':Array GenState}{t':Nat}{d':Drawn}{ch:List Addr}(I:Inv X pins Y H s)(u:Un (frs X.stack) ch H H' s.heap h')(hok:HOk X.prog X.w H' h')(hg:AllBare g')
  (hch:∀b∈ch,(b∈X.ex∨X.s₀.heap.objs.size<=b)/\b≠X.env.locals/\(∀x c,X.env.cells.lookup x=some c->c≠b)/\∀p∈X.pn++pins,p.1≠b):
  Inv X pins Y H' {s with heap:=h',gens:=g',drawn:=d',toks:=t'}:=by
 obtain⟨m,⟨o,es,ep,ho,r⟩,_⟩:=id I.loc
 obtain⟨sl,hL⟩:=u.any ho I.free λz=>(hch _ z).2.1 rfl
 exact I.step (ch:=ch) hch (λb o hL hb hc e n=>u.keep b o e n (λz=>(mem_cons.mp (I.stkSub b z)).elim hL hb) hc) (λb o _ _ hc e n=>u.any e n hc) (λb o hc e n=>u.free b o e n hc) (λb o hc e=>u.there b o e hc) u.tups u.frzs u.tbls (λm' hm=>by
  obtain⟨o',es',ep',ho',r'⟩:=hm
  rw[ho]at ho';cases ho'
  exact⟨_,es',ep',hL,r'⟩) hok hg
theorem Inv.turned {t':Nat}{it:Addr}(I:Inv X pins Y H s)(k:∀b o,b≠it->s.heap.get? b=some o->h'.get? b=some o)(hn:H it=none)(hL:it≠X.env.locals)
  (h1:it∈X.ex∨X.s₀.heap.objs.size<=it) (h2:∀x c,X.env.cells.lookup x=some c->c≠it) (h3:∀p∈X.pn++pins,p.1≠it):Inv X pins Y H {s with heap:=h',toks:=t'}:=by
 have nit:∀b u,H b=some u->b≠it:=λb u e z=>by rw[z,hn]at e;cases e
 refine I.step (g':=s.gens) (d':=s.drawn) (ch:=[it]) (λb hb=>?_) (λb o _ _ hc e _=>k b o (λz=>hc (by simp[z])) e) (λb o _ _ hc e _=>⟨o.slots,k b o (λz=>hc (by simp[z])) e⟩) (λ_ _ _ _ n=>n)
  (λb o hc e=>⟨o,k b o (λz=>hc (by simp[z])) e⟩) (λ_ _ e=>e) (λ_ _ _ e=>e) (λb ps e=>⟨#[],by rw[e];simp⟩) (λm hm=>?_) (λb u e=>?_) I.bare
 .have e:b=it:=by simpa using hb
  subst e
  exact⟨h1,hL,h2,h3⟩
 .obtain ⟨o,es,ep,ho,r⟩:=hm
  exact⟨o,es,ep,k _ o (Ne.symm hL) ho,r⟩
 .refine (I.hok b u e).stay (λc v hc q=>k c v ?_ q) (λ_ q=>q) λ_ _ q=>q
  rcases hc with z |z
  .rw [z];exact nit b u e
  .exact nit c _ z
theorem Inv.tok (I:Inv X pins Y H s)(t:Nat):Inv X pins Y H {s with toks:=t}:=I.un (h':=s.heap) (t':=t) Un.refl I.hok
theorem Inv.kept {t':Nat}(I:Inv X pins Y H s)(k:∀b u,s.heap.get? b=some u->h'.get? b=some u):Inv X pins Y H {s with heap:=h',toks:=t'}:=I.un (Un.kept k) (I.hok.kept k)
theorem Inv.laid {a:Addr}{o:HO}{t':Nat}(I:Inv X pins Y H s)(k:∀b u,s.heap.get? b=some u->h'.get? b=some u)(hp:s.heap.objs.size<=a)(new:Xgt X.prog X.w (upd H a o) h' a o):
  Inv X pins Y (upd H a o) {s with heap:=h',toks:=t'}:=I.un (Un.laid k hp (I.hok.fresh hp)) (I.hok.laid k hp new)
theorem Inv.write {x e:Addr}{o:HO}{t':Nat}(I:Inv X pins Y H s)(mu:Mut (H x))(he:e=x∨H e=some (.own x))(k:∀b u,b≠e->s.heap.get? b=some u->h'.get? b=some u)(heo:∃u,h'.get? e=some u)
  (new:Xgt X.prog X.w (upd H x o) h' x o):Inv X pins Y (upd H x o) {s with heap:=h',toks:=t'}:=I.un (Un.write mu he k heo) (I.hok.write mu he k heo new)
theorem Inv.pins_of {pins':List (Addr×Obj)}(I:Inv X pins Y H s)(h:∀p∈pins',s.heap.get? p.1=some p.2/\H p.1=none/\p.1≠X.env.locals/\p.1∉X.fs/\∀v,p.2.data≠.cell v):Inv X pins' Y H s:=
 ⟨I.ok,I.os,I.bare,I.base,I.loc,I.cell,I.free,I.freeC,λp hp=>(mem_append.mp hp).elim (λz=>I.pin p (mem_append_left _ z)) (h p),I.hok,I.len⟩
theorem Xwn {N:List Str}(hN:N.Nodup){i j:Nat}{x:Str}(a:N[i]?=some x)(b:N[j]?=some x):i=j:=by
 obtain⟨h1,e1⟩:=List.getElem?_eq_some_iff.mp a
 obtain⟨h2,e2⟩:=List.getElem?_eq_some_iff.mp b
 exact (List.getElem_inj hN).mp (e1.trans e2.symm)
theorem Xrv {δ:Model}{A:Around}{E:Value->Shared->Prop}{i:Nat}{x:Str}{v:V}{u:Value}{Q:Unit->Shared->Prop}(I:Inv X pins Y H s)(hN:X.N.Nodup)(hi:X.N[i]?=some x)(hx:Loc X.env.scope x)(r:Xd3 v u)
  (h:∀s',Inv X pins (Y.set i (some v)) H s'->(∃a,Heap.SameBut a s.heap s'.heap/\(a=X.env.locals∨X.env.cells.lookup x=some a))->Q () s') (hf:X.fn x=true∨X.env.scope.names.lookup x=some .local:=by first |exact .inl rfl |exact .inr rfl |assumption):wpAny δ A (storeName X.env x u) Q E s:=by
 obtain⟨m,hn,hl⟩:=id I.loc
 have hcls:(X.env.scope.kind == .class || (X.env.scope.kind == .module && X.env.locals != X.env.globals))=false:=by rw[I.ok.kind];rfl
 have hiσ:i<Y.length:=by rw[I.len];exact (List.getElem?_eq_some_iff.mp hi).1
 have cne:=I.cne
 have tracked:∀{a:Addr} {h':Heap},(∃o,s.heap.get? a=some o/\H a=none)->Heap.SameBut a s.heap h'->HOk X.prog X.w H h':=λ{a h'} ha hs b ob e=>by
  obtain⟨_,_,hfree⟩:=ha
  refine (I.hok b ob e).stay (λc w' hc q=>(hs.2 c ?_).trans q) (λ_ q=>q) λ_ _ q=>q
  rintro rfl
  rcases hc with rfl |hc
  .rw [hfree]at e;cases e
  .rw [hfree]at hc;cases hc
 rcases hx with hk |hk
 .refine wpAny_storeName_local hk hn (λh' hn' hs=>?_) hcls
  obtain⟨oL,_,_,hoL,_⟩:=id hn
  refine h _ ⟨I.ok,I.os,I.bare,⟨λb o e n hb hx=>?_,λb o e n hb hx=>?_,I.base.free,λb o e hx=>?_,I.base.tups,I.base.frzs,I.base.tbls⟩,⟨_,hn',λj y v' e1 e2 e3=>?_⟩,λy c e=>?_,I.free,I.freeC,λp hp=>?_,tracked ⟨oL,hoL,I.free⟩ hs,by simpa using I.len⟩ ⟨_,hs,.inl rfl⟩
  .exact (hs.2 b (ne_of_lt (lt_of_lt_of_le (lt_size e) I.ok.above))).trans (I.base.keep b o e n hb hx)
  .obtain ⟨sl,e1⟩:=I.base.slot b o e n hb hx
   exact⟨sl,(hs.2 b (ne_of_lt (lt_of_lt_of_le (lt_size e) I.ok.above))).trans e1⟩
  .obtain ⟨o',e1⟩:=I.base.there b o e hx
   exact⟨o',(hs.2 b (ne_of_lt (lt_of_lt_of_le (lt_size e) I.ok.above))).trans e1⟩
  .by_cases hj:j=i
   .subst hj
    rw[hi]at e1;cases e1
    rw[getElem?_set_self hiσ]at e2
    cases e2
    exact⟨u,r,.inl ⟨hk,by simp⟩⟩
   .rw [getElem?_set_ne (Ne.symm hj)]at e2
    obtain⟨u',r',q⟩:=hl j y v' e1 e2 e3
    refine⟨u',r',?_⟩
    rcases q with⟨k,e⟩ | ⟨k,c,e,z⟩
    .refine .inl ⟨k,?_⟩
     have:y≠x:=λe=>hj (Xwn hN e1 (e▸hi))
     simp[this,e]
    .exact .inr ⟨k,c,e,z.sameBut hs (cne y c e)⟩
  .obtain ⟨w',z⟩:=I.cell y c e
   exact⟨w',z.sameBut hs (cne y c e)⟩
  .obtain ⟨e,n,ne,nf,d⟩:=I.pin p hp
   exact⟨(hs.2 p.1 ne).trans e,n,ne,nf,d⟩
 .have hfn:X.fn x=true:=by
   rcases hf with z |z
   .exact z
   .rw [z]at hk;cases hk
  obtain⟨c,hc⟩:=I.ok.has x (.inl hk)
  obtain⟨w',z⟩:=I.cell x c hc
  refine wpAny_storeName_cell I.ok.kind hk hc z (λh' hc' hs=>?_)
  obtain⟨oc,hoc,hocd⟩:=id z
  refine h {s with heap:=h'} ⟨I.ok,I.os,I.bare,⟨λb o e n hb hx=>?_,λb o e n hb hx=>?_,I.base.free,λb o e hx=>?_,I.base.tups,I.base.frzs,I.base.tbls⟩,⟨m,hn.sameBut hs (Ne.symm (cne x c hc)),λj y v' e1 e2 e3=>?_⟩,λy c' e=>?_,I.free,I.freeC,λp hp=>?_,tracked ⟨oc,hoc,I.freeC x c hc⟩ hs,by simpa using I.len⟩ ⟨c,hs,.inr hc⟩
  .exact (hs.2 b (ne_of_lt (lt_of_lt_of_le (lt_size e) (I.ok.cab x c hfn hc)))).trans (I.base.keep b o e n hb hx)
  .obtain ⟨sl,e1⟩:=I.base.slot b o e n hb hx
   exact⟨sl,(hs.2 b (ne_of_lt (lt_of_lt_of_le (lt_size e) (I.ok.cab x c hfn hc)))).trans e1⟩
  .obtain ⟨o',e1⟩:=I.base.there b o e hx
   exact⟨o',(hs.2 b (ne_of_lt (lt_of_lt_of_le (lt_size e) (I.ok.cab x c hfn hc)))).trans e1⟩
  .by_cases hj:j=i
   .subst hj
    rw[hi]at e1;cases e1
    rw[getElem?_set_self hiσ]at e2
    cases e2
    exact⟨u,r,.inr ⟨.inl hk,c,hc,hc'⟩⟩
   .rw [getElem?_set_ne (Ne.symm hj)]at e2
    obtain⟨u',r',q⟩:=hl j y v' e1 e2 e3
    refine⟨u',r',?_⟩
    rcases q with q | ⟨k,c',e,z'⟩
    .exact .inl q
    .refine .inr ⟨k,c',e,z'.sameBut hs ?_⟩
     rintro rfl
     exact hj (Xwn hN e1 (I.ok.inj _ _ _ e hc▸hi))
  .by_cases hcc:c'=c
   .subst hcc;exact⟨_,hc'⟩
   .obtain ⟨w2,z2⟩:=I.cell y c' e
    exact⟨w2,z2.sameBut hs hcc⟩
  .obtain ⟨e,n,ne,nf,d⟩:=I.pin p hp
   refine⟨(hs.2 p.1 ?_).trans e,n,ne,nf,d⟩
   intro q
   rw[q,hoc]at e
   have q':oc=p.2:=Option.some.inj e
   exact d w' (by rw[<- q'];exact hocd)
theorem Xqa {δ:Model}{A:Around}{E:Value->Shared->Prop}{i:Nat}{x:Str}{v:V}{u:Value}{Q:Unit->Shared->Prop}(I:Inv X pins Y H s)(hN:X.N.Nodup)(hi:X.N[i]?=some x)(hx:Loc X.env.scope x)(r:Xd3 v u)
  (h:∀s',Inv X pins (Y.set i (some v)) H s'->Q () s') (hf:X.fn x=true∨X.env.scope.names.lookup x=some .local:=by first |exact .inl rfl |exact .inr rfl |assumption):wpAny δ A (storeName X.env x u) Q E s:=
 Xrv I hN hi hx r (λs' I' _=>h s' I') hf
theorem Inv.call' {s':Shared}{ch:List Addr}(I:Inv X pins Y H s)(ho:s'.os=s.os)(u:Un (frs X.stack) ch H H' s.heap s'.heap)(hok:HOk X.prog X.w H' s'.heap)(hg:AllBare s'.gens)
  (hch:∀b∈ch,(b∈X.ex∨X.s₀.heap.objs.size<=b)/\b≠X.env.locals/\(∀x c,X.env.cells.lookup x=some c->c≠b)/\∀p∈X.pn++pins,p.1≠b):Inv X pins Y H' s':=by
 obtain⟨h',g',d',t',o'⟩:=s'
 have e:o'=s.os:=ho
 subst e
 exact I.call (g':=g') (t':=t') (d':=d') u hok hg hch
end
abbrev XK:=Value->Option Addr->Hp->Prop
abbrev St:=List (Option V)
abbrev VK:=V->Hp->Prop
abbrev TE:=St->Hp->VK->Prop
abbrev TT:=St->Hp->(Bool->Hp->Prop)->Prop
abbrev TA:=St->Hp->(List V->Hp->Prop)->Prop
structure Ends where
 nx:St->Hp->Prop
 rt:VK
 bk:St->Hp->Prop:=λ_ _=>False
 ct:St->Hp->Prop:=λ_ _=>False
abbrev TS:=Ends->St->Hp->Prop
def EP (X:Cx)(pins:List (Addr×Obj))(Y:St)(Q:VK)(u:Value)(s':Shared):Prop:=∃v H',Inv X pins Y H' s'/\Xd3 v u/\Q v H'
def TP (X:Cx)(pins:List (Addr×Obj))(Y:St)(Q:Bool->Hp->Prop)(b:Bool)(s':Shared):Prop:=∃H',Inv X pins Y H' s'/\Q b H'
def AP (X:Cx)(pins:List (Addr×Obj))(Y:St)(Q:List V->Hp->Prop)(us:List Value)(s':Shared):Prop:=∃vs H',Inv X pins Y H' s'/\Xcd vs us/\Q vs H'
def SP (X:Cx)(pins:List (Addr×Obj))(D:Ends)(f:Flow)(s':Shared):Prop:=
 match f with
 | .next=>∃Y' H',Inv X pins Y' H' s'/\D.nx Y' H'
 | .brk=>∃Y' H',Inv X pins Y' H' s'/\D.bk Y' H'
 | .cont=>∃Y' H',Inv X pins Y' H' s'/\D.ct Y' H'
 | .ret u=>∃v Y' H',Inv X pins Y' H' s'/\Xd3 v u/\D.rt v H'
def PE (X:Cx)(e:Expr)(t:TE):Prop:=
 ∀(pins:List (Addr×Obj)) (s:Shared) (Y:St) (H:Hp) (Q:VK),Inv X pins Y H s->t Y H Q->wpAny (model X.prog X.w) X.A (eval e X.env) (EP X pins Y Q) X.xe s
def PT (X:Cx)(e:Expr)(t:TT):Prop:=
 ∀(pins:List (Addr×Obj)) (s:Shared) (Y:St) (H:Hp) (Q:Bool->Hp->Prop),Inv X pins Y H s->t Y H Q->wpAny (model X.prog X.w) X.A (isTrue e X.env (eval e X.env)) (TP X pins Y Q) X.xe s
def PW (X:Cx)(e:Expr)(t:TT):Prop:=
 ∀(whole:Sem Value) (pins:List (Addr×Obj)) (s:Shared) (Y:St) (H:Hp) (Q:Bool->Hp->Prop),Inv X pins Y H s->t Y H Q->wpAny (model X.prog X.w) X.A (isTrue e X.env whole) (TP X pins Y Q) X.xe s
theorem PW.pt {X:Cx}{e:Expr}{t:TT}(h:PW X e t):PT X e t:=h _
def PA (X:Cx)(es:List Expr)(t:TA):Prop:=
 ∀(pos:Pos) (pins:List (Addr×Obj)) (s:Shared) (Y:St) (H:Hp) (Q:List V->Hp->Prop),Inv X pins Y H s->t Y H Q->wpAny (model X.prog X.w) X.A (spliced (backTo pos (starEach es X.env))) (AP X pins Y Q) X.xe s
def PS (X:Cx)(st:Stmt)(t:TS):Prop:=
 ∀(pins:List (Addr×Obj)) (s:Shared) (Y:St) (H:Hp) (D:Ends),Inv X pins Y H s->t D Y H->wpAny (model X.prog X.w) X.A (exec st X.env) (SP X pins D) X.xe s
def PSs (X:Cx)(st:List Stmt)(t:TS):Prop:=
 ∀(pins:List (Addr×Obj)) (s:Shared) (Y:St) (H:Hp) (D:Ends),Inv X pins Y H s->t D Y H->wpAny (model X.prog X.w) X.A (execs st X.env) (SP X pins D) X.xe s
theorem thn {α:Type}{t:Sem α}{Q Q':α->Shared->Prop}{δ:Model}{A:Around}{E:Value->Shared->Prop}{s:Shared}(h:wpAny δ A t Q E s)(hQ:∀a s,Q a s->Q' a s):wpAny δ A t Q' E s:=wpAny_mono h hQ λ_ _ x=>x
section
variable {X:Cx}
def Xm7 (i:Nat):TE:=λY H Q=>∃v,Y[i]?=some (some v)/\Q v H
def tC (v:V):TE:=λ_ H Q=>Q v H
theorem Yki {i:Nat}{x:Str}{pos:Pos}(hN:X.N[i]?=some x)(hv:Vis X.env.scope x)(hd:(x==("__debug__":Str))=false:=by decide)(hcd:(x==("__classdict__":Str))=false:=by decide):PE X (.Name x pos) (Xm7 i):=by
 intro pins s Y H Q I h
 obtain⟨v,e,h⟩:=h
 obtain⟨m,hn,hl⟩:=I.loc
 obtain⟨u,r,l⟩:=hl i x v hN e hv
 have fin:EP X pins Y Q u s:=⟨v,H,I,r,h⟩
 rcases l with⟨hk,hm⟩ | ⟨hk,c,hc,hcell⟩
 .exact wpAny_Name (wpAny_loadName_local I.ok.kind hk hn hm fin) hd
 .rcases hk with hk |hk
  .exact wpAny_Name (wpAny_loadName_cell I.ok.kind hk hc hcell fin) hd
  .exact wpAny_Name (wpAny_loadName_free I.ok.kind hk hc hcell fin hcd) hd
theorem Xaj {i j pos}:PE X (.Constant (.int i) j pos) (tC (.int i)):=λ_ _ _ H _ I h=>wpAny_Constant_int ⟨.int i,H,I.tok _,⟨_,rfl⟩,h⟩
theorem Xkp {b j pos}:PE X (.Constant (.bool b) j pos) (tC (.bl b)):=λ_ _ _ H _ I h=>Constant_bool ⟨.bl b,H,I,rfl,h⟩
theorem Xwf {j pos}:PE X (.Constant .none j pos) (tC .non):=λ_ _ _ H _ I h=>Constant_none ⟨.non,H,I,rfl,h⟩
theorem Xij {x j pos}:PE X (.Constant (.str x) j pos) (tC (.str x)):=λ_ _ _ H _ I h=>Calls.Constant_str ⟨.str x,H,I.tok _,⟨_,rfl⟩,h⟩
def Gl (X:Cx)(x:Str):Prop:=X.env.kindOf x=some .globalImplicit
theorem Xuz {E:Value->Shared->Prop}{pins:List (Addr×Obj)}{s:Shared}{Y:St}{H:Hp}{x:Str}{u:Value}{pos:Pos}{Q:Value->Shared->Prop}(I:Inv X pins Y H s)(hg:Gl X x)(hm:X.mg x=some u)(h:Q u s)
  (hd:(x==("__debug__":Str))=false:=by decide):wpAny (model X.prog X.w) X.A (eval (.Name x pos) X.env) Q E s:=
 Calls.Name_function_global I.ok.kind hg (Calls.loadGlobal_global (by rw[I.ok.glob];exact I.mod.glob.keeps I.bk) hm h) hd
theorem Xgn {E:Value->Shared->Prop}{pins:List (Addr×Obj)}{s:Shared}{Y:St}{H:Hp}{x:Str}{u:Value}{pos:Pos}{Q:Value->Shared->Prop}(I:Inv X pins Y H s)(hg:Gl X x)(hm:X.mg x=none)(hv:bootBuiltins x=some u)(h:Q u s)
  (hn:x ≠ "__name__":=by decide) (hd:(x==("__debug__":Str))=false:=by decide):wpAny (model X.prog X.w) X.A (eval (.Name x pos) X.env) Q E s:=by
 obtain⟨mb,h1,h2⟩:=I.mod.blt
 exact Calls.Name_function_global I.ok.kind hg (Calls.loadGlobal_builtin (by rw[I.ok.glob];exact I.mod.glob.keeps I.bk) hm (by rw[I.ok.blt];exact h1.keeps I.bk) ((h2 x hn).trans hv) h) hd
theorem Xul {x:Str}{v:V}{u:Value}{pos:Pos}(hg:Gl X x)(hm:X.mg x=some u)(r:Xd3 v u)(hd:(x==("__debug__":Str))=false:=by decide):PE X (.Name x pos) (tC v):=
 λ_ _ _ H _ I h=>Xuz I hg hm ⟨v,H,I,r,h⟩ hd
theorem Xil {x:Str}{v:V}{u:Value}{pos:Pos}(hg:Gl X x)(hm:X.mg x=none)(hv:bootBuiltins x=some u)(r:Xd3 v u)(hn:x ≠ "__name__":=by decide)(hd:(x==("__debug__":Str))=false:=by decide):PE X (.Name x pos) (tC v):=
 λ_ _ _ H _ I h=>Xgn I hg hm hv ⟨v,H,I,r,h⟩ hn hd
variable {a b:Expr}{ta tb:TE}{pos:Pos}
def tB (t:TE):TT:=λY H Q=>t Y H λx H1=>∃c,x = .bl c/\Q c H1
theorem Xcr {e:Expr}{t:TE}(h:PE X e t)(he:∀whole,isTrue e X.env whole=(do let v <- whole;standAt e.pos;holding [v] (truthy v)):=by intro _;rfl):PT X e (tB t):=by
 intro pins s Y H Q I hw
 refine isTrue_plain (thn (h pins s Y H _ I hw) λv s1 ⟨x,H1,I1,r1,q1⟩=>?_) (he _)
 obtain⟨d,rfl,q⟩:=q1
 cases r1
 exact wpAny_truthy_bool ⟨H1,I1,q⟩
variable {tA tB':TT}{Xht:List Expr}
def Yn2 (t u:TT):TT:=λY H Q=>t Y H λc H1=>if c=true then u Y H1 Q else Q false H1
def tOr (t u:TT):TT:=λY H Q=>t Y H λc H1=>if c=true then Q true H1 else u Y H1 Q
def Yny (t:TT):TT:=λY H Q=>t Y H λc H1=>Q (!c) H1
theorem Yab (ha:PT X a tA):PW X (.BoolOp .And [a] pos) tA:=by
 intro wh pins s Y H Q I h
 refine isTrue_and (thn (ha pins s Y H Q I h) λc s1 e=>?_)
 cases c with
 |true=>exact isTrue_and_nil e
 |false=>exact e
theorem Xkm (ha:PT X a tA):PW X (.BoolOp .Or [a] pos) tA:=by
 intro wh pins s Y H Q I h
 refine isTrue_or (thn (ha pins s Y H Q I h) λc s1 e=>?_)
 cases c with
 |false=>exact isTrue_or_nil e
 |true=>exact e
theorem Yfm (ha:PT X a tA)(hb:PW X (.BoolOp .And (b::Xht) pos) tB'):PW X (.BoolOp .And (a::b::Xht) pos) (Yn2 tA tB'):=by
 intro wh pins s Y H Q I h
 refine isTrue_and (thn (ha pins s Y H _ I h) λc s1 ⟨H1,I1,q1⟩=>?_)
 cases c with
 |true=>exact hb wh pins s1 Y H1 Q I1 q1
 |false=>exact⟨H1,I1,q1⟩
theorem Xnt (ha:PT X a tA)(hb:PW X (.BoolOp .Or (b::Xht) pos) tB'):PW X (.BoolOp .Or (a::b::Xht) pos) (tOr tA tB'):=by
 intro wh pins s Y H Q I h
 refine isTrue_or (thn (ha pins s Y H _ I h) λc s1 ⟨H1,I1,q1⟩=>?_)
 cases c with
 |true=>exact⟨H1,I1,q1⟩
 |false=>exact hb wh pins s1 Y H1 Q I1 q1
theorem Xdk (ha:PT X a tA):PT X (.UnaryOp .Not a pos) (Yny tA):=by
 intro pins s Y H Q I h
 exact isTrue_not (ha pins s Y H (λc H1=>Q (!c) H1) I h)
def Yjq (ta tb:TE):TE:=λY H Q=>ta Y H λx H1=>∃c,x = .bl c/\if c=true then tb Y H1 Q else Q (.bl false) H1
def Yjl (ta:TE):TE:=λY H Q=>ta Y H λx H1=>∃c,x = .bl c/\Q (.bl (!c)) H1
theorem Xwe {op}{t:TE}(h:PE X a t):PE X (.BoolOp op [a] pos) t:=λpins s Y H Q I hw=>BoolOp_one (h pins s Y H Q I hw)
theorem Xwi (ha:PE X a ta)(hb:PE X (.BoolOp .And (b::Xht) pos) tb):PE X (.BoolOp .And (a::b::Xht) pos) (Yjq ta tb):=by
 intro pins s Y H Q I h
 refine BoolOp_and (thn (ha pins s Y H _ I h) λv s1 ⟨x,H1,I1,r1,q1⟩=>?_)
 obtain⟨c,rfl,q1⟩:=q1
 cases r1
 refine wpAny_truthy_bool ?_
 cases c with
 |true=>exact hb pins s1 Y H1 Q I1 q1
 |false=>exact⟨.bl false,H1,I1,rfl,q1⟩
theorem Ykj (ha:PE X a ta):PE X (.UnaryOp .Not a pos) (Yjl ta):=by
 intro pins s Y H Q I h
 refine UnaryOp_ (thn (ha pins s Y H _ I h) λv s1 ⟨x,H1,I1,r1,q1⟩=>?_)
 obtain⟨c,rfl,q1⟩:=q1
 cases r1
 exact not_of (wpAny_truthy_bool ⟨.bl (!c),H1,I1,rfl,q1⟩)
def tIf (t:TT)(ta tb:TE):TE:=λY H Q=>t Y H λc H1=>if c=true then ta Y H1 Q else tb Y H1 Q
theorem Xwg {c:Expr}(hc:PT X c tA)(ha:PE X a ta)(hb:PE X b tb):PE X (.IfExp c a b pos) (tIf tA ta tb):=by
 intro pins s Y H Q I h
 refine wpAny_IfExp (thn (hc pins s Y H _ I h) λd s1 ⟨H1,I1,q1⟩=>?_)
 cases d with
 |true=>exact ha pins s1 Y H1 Q I1 q1
 |false=>exact hb pins s1 Y H1 Q I1 q1
end
def SqL (K:Frag)(H:Hp)(a:Addr)(xs:List V):Prop:=
 Rd H a (.lst xs)∨
  ∃(o:Obj) (its:Array Value) (n:Nat),K.lookup a=some o/\o.cls = .type "list"/\o.dict=none/\o.data = .seq its n/\its.size<=sizeLine/\Xcd xs its.toList
def SqT (K:Frag)(H:Hp)(a:Addr)(xs:List V):Prop:=
 Rd H a (.tup xs)∨
  ∃(o:Obj) (its:Array Value) (n:Nat),K.lookup a=some o/\o.cls = .type "tuple"/\o.data = .seq its n/\its.size<=sizeLine/\Xcd xs its.toList
def Ypq:Value->Option V
 | .none=>some .non
 | .bool b=>some (.bl b)
 | .int i _=>some (.int i)
 | .str x _=>some (.str x)
 | .bytes b _=>some (.byt b)
 | .float b _=>some (.flt b)
 | .ref a=>some (.ref a)
 | .type n=>some (.ty n)
 |_=>none
theorem Xd3.abs {x:V}{u:Value}(r:Xd3 x u):Ypq u=some x:=by
 cases x with
 |non=>cases r;rfl
 |bl _=>cases r;rfl
 |int _=>obtain⟨t,rfl⟩:=r;rfl
 |str _=>obtain⟨t,rfl⟩:=r;rfl
 |byt _=>obtain⟨t,rfl⟩:=r;rfl
 |flt _=>obtain⟨t,rfl⟩:=r;rfl
 |ref _=>cases r;rfl
 |ty _=>cases r;rfl
theorem Xd3.inj {x y:V}{u:Value}(r:Xd3 x u)(q:Xd3 y u):x=y:=Option.some.inj (r.abs.symm.trans q.abs)
theorem Xcd.inj:∀{xs ys:List V} {us:List Value},Xcd xs us->Xcd ys us->xs=ys
 |_,_,_,.nil,.nil=>rfl
 |_,_,_,.cons r t,.cons r' t'=>by rw[r.inj r',Xcd.inj t t']
section
variable {X:Cx}{pins:List (Addr×Obj)}{Y:St}{H:Hp}{s:Shared}{a:Addr}{xs ys:List V}
theorem SqL.of {K:Frag}(h:H a=some (.lst xs)):SqL K H a xs:=.inl (.inl h)
theorem Inv.list (I:Inv X pins Y H s)(h:SqL X.K H a xs):∃its:List Value,Xcd xs its/\PlainL s.heap a its.toArray/\xs.length<=sizeLine:=by
 rcases h with h | ⟨o,its,n,hk,hc,hd,hs,hz,r⟩
 .obtain ⟨z,its,n,r,e⟩:=h.ok I.hok
  exact⟨its,r,⟨_,n,e,rfl,rfl,rfl⟩,z⟩
 .refine ⟨its.toList,r,⟨o,n,I.kIn a o hk,hc,hd,by simpa using hs⟩,?_⟩
  have e:=r.length
  simp only[length_toList]at e
  omega
theorem Inv.tuple (I:Inv X pins Y H s)(h:SqT X.K H a xs):∃its:List Value,Xcd xs its/\IsTup s.heap a its.toArray/\xs.length<=sizeLine:=by
 rcases h with h | ⟨o,its,n,hk,hc,hs,hz,r⟩
 .obtain ⟨z,its,r,p⟩:=h.ok I.hok
  exact⟨its,r,p,z⟩
 .refine ⟨its.toList,r,⟨o,I.kIn a o hk,hc,n,by simpa using hs⟩,?_⟩
  have e:=r.length
  simp only[length_toList]at e
  omega
theorem Inv.list_inj (I:Inv X pins Y H s)(h:SqL X.K H a xs)(h':SqL X.K H a ys):xs=ys:=by
 obtain⟨its,r,⟨o,n,e,_,_,d⟩,_⟩:=I.list h
 obtain⟨its',r',⟨o',n',e',_,_,d'⟩,_⟩:=I.list h'
 rw[e]at e';cases e'
 rw[d]at d'
 injection d' with d1 _
 have:its=its':=by simpa using congrArg Array.toList d1
 subst this
 exact r.inj r'
theorem Inv.tuple_inj (I:Inv X pins Y H s)(h:SqT X.K H a xs)(h':SqT X.K H a ys):xs=ys:=by
 obtain⟨its,r,⟨o,e,_,n,d⟩,_⟩:=I.tuple h
 obtain⟨its',r',⟨o',e',_,n',d'⟩,_⟩:=I.tuple h'
 rw[e]at e';cases e'
 rw[d]at d'
 injection d' with d1 _
 have:its=its':=by simpa using congrArg Array.toList d1
 subst this
 exact r.inj r'
end
abbrev Cx.wish (X:Cx)(E:Value->Shared->Prop):Cx:={X with xe:=E}
abbrev Cx.nox (X:Cx):Cx:=X.wish λ_ _=>False
theorem Cx.Ok.wish {X:Cx}(ok:X.Ok)(E:Value->Shared->Prop):(X.wish E).Ok:=
 ⟨ok.mod,ok.kind,ok.glob,ok.blt,ok.above,ok.inj,ok.has,ok.cab,ok.hd,ok.frames,ok.stk,ok.exf,ok.bs,ok.bsz,ok.noex,ok.exfs,ok.funs,ok.frf⟩
theorem Cx.Ok.unwish {X:Cx}{E:Value->Shared->Prop}(ok:(X.wish E).Ok):X.Ok:=
 ⟨ok.mod,ok.kind,ok.glob,ok.blt,ok.above,ok.inj,ok.has,ok.cab,ok.hd,ok.frames,ok.stk,ok.exf,ok.bs,ok.bsz,ok.noex,ok.exfs,ok.funs,ok.frf⟩
section
variable {X:Cx}{pins:List (Addr×Obj)}{Y:St}{H:Hp}{s:Shared}{E:Value->Shared->Prop}
theorem Inv.wish (I:Inv X pins Y H s)(E:Value->Shared->Prop):Inv (X.wish E) pins Y H s:=⟨I.ok.wish E,I.os,I.bare,I.base,I.loc,I.cell,I.free,I.freeC,I.pin,I.hok,I.len⟩
theorem Inv.unwish (I:Inv (X.wish E) pins Y H s):Inv X pins Y H s:=⟨I.ok.unwish,I.os,I.bare,I.base,I.loc,I.cell,I.free,I.freeC,I.pin,I.hok,I.len⟩
theorem SP.unwish {D:Ends}{f:Flow}{s':Shared}(h:SP (X.wish E) pins D f s'):SP X pins D f s':=by
 cases f with
 |next=>obtain⟨Y',H',I,q⟩:=h;exact⟨Y',H',I.unwish,q⟩
 |brk=>obtain⟨Y',H',I,q⟩:=h;exact⟨Y',H',I.unwish,q⟩
 |cont=>obtain⟨Y',H',I,q⟩:=h;exact⟨Y',H',I.unwish,q⟩
 |ret u=>obtain⟨v,Y',H',I,r,q⟩:=h;exact⟨v,Y',H',I.unwish,r,q⟩
theorem PSs.nox {st:List Stmt}{t:TS}(h:PSs X.nox st t):PSs X st t:=λpins s Y H D I hw=>
 wpAny_mono (h pins s Y H D (I.wish _) hw) (λ_ _ q=>q.unwish) λ_ _ z=>False.elim z
end
section
variable {X:Cx}{st:Stmt}{Xht:List Stmt}{t u:TS}{e:Expr}{te:TE}{pos:Pos}
def Yjm:TS:=λD Y H=>D.nx Y H
def Ynx (t u:TS):TS:=λD Y H=>t {D with nx:=u D} Y H
theorem Xbg:PSs X [] Yjm:=λ_ _ Y H _ I h=>wpAny_execs_nil ⟨Y,H,I,h⟩
theorem Xah (h1:PS X st t)(h2:PSs X Xht u):PSs X (st::Xht) (Ynx t u):=by
 intro pins s Y H D I h
 refine wpAny_execs_cons (thn (h1 pins s Y H {D with nx:=u D} I h) λf s1 q=>?_)
 cases f with
 |next=>
  obtain⟨Y',H',I',q⟩:=q
  exact h2 pins s1 Y' H' D I' q
 |ret v=>exact q
 |brk=>exact q
 |cont=>exact q
theorem Xal (h1:PS X st t):PSs X [st] t:=by
 intro pins s Y H D I h
 refine wpAny_execs_cons (thn (h1 pins s Y H D I h) λf s1 q=>?_)
 cases f with
 |next=>exact wpAny_execs_nil q
 |ret v=>exact q
 |brk=>exact q
 |cont=>exact q
def Ye2:TS:=λD Y H=>D.bk Y H
theorem Ydl:PS X (.Break pos) Ye2:=λ_ _ Y H _ I h=>wpAny_Break ⟨Y,H,I,h⟩
theorem Inv.quiet {pins:List (Addr×Obj)}{Y:St}{H:Hp}{s:Shared}(I:Inv X pins Y H s):interactive X.env=false:=by simp[interactive,I.ok.kind]
def Xov (te:TE):TS:=λD Y H=>te Y H λ_ H1=>D.nx Y H1
theorem Xbl (he:PE X e te)(hs:swapsWith e none pos.line X.env=pure false:=by rfl):PS X (.Expr e pos) (Xov te):=by
 intro pins s Y H D I h
 exact wpAny_Expr_any (thn (he pins s Y H _ I h) λv s1 ⟨x,H1,I1,r1,q1⟩=>⟨Y,H1,I1,q1⟩) I.quiet hs
def Ymr (te:TE):TS:=λD Y H=>te Y H D.rt
theorem Xa1 (he:PE X e te):PS X (.Return (some e) pos) (Ymr te):=by
 intro pins s Y H D I h
 exact wpAny_Return_some (thn (he pins s Y H _ I h) λv s1 ⟨x,H1,I1,r1,q1⟩=>⟨x,Y,H1,I1,r1,q1⟩)
def Ynz (c:TT)(t u:TS):TS:=λD Y H=>c Y H λb H1=>if b=true then t D Y H1 else u D Y H1
theorem Xcm {c:Expr}{a b:List Stmt}{tc:TT}(hc:PT X c tc)(ha:PSs X a t)(hb:PSs X b u):PS X (.If c a b pos) (Ynz tc t u):=by
 intro pins s Y H D I h
 refine wpAny_If (thn (hc pins s Y H _ I h) λd s1 ⟨H1,I1,q1⟩=>?_)
 cases d with
 |true=>exact ha pins s1 Y H1 D I1 q1
 |false=>exact hb pins s1 Y H1 D I1 q1
def Yez:TS:=λ_ _ _=>False
theorem Xhg:PS X st Yez:=λ_ _ _ _ _ _ h=>h.elim
end
abbrev TG:=V->St->Hp->(St->Hp->Prop)->Prop
abbrev TGs:=List V->St->Hp->(St->Hp->Prop)->Prop
def PG (X:Cx)(target:Expr)(t:TG):Prop:=
 ∀(pins:List (Addr×Obj)) (s:Shared) (Y:St) (H:Hp) (v:V) (u:Value) (Q:St->Hp->Prop),Inv X pins Y H s->Xd3 v u->t v Y H Q->
  wpAny (model X.prog X.w) X.A (assign target X.env u) (λ_ s'=>∃Y' H',Inv X pins Y' H' s'/\Q Y' H') X.xe s
def PGs (X:Cx)(ts:List Expr)(t:TGs):Prop:=
 ∀(pins:List (Addr×Obj)) (s:Shared) (Y:St) (H:Hp) (vs:List V) (us:List Value) (Q:St->Hp->Prop),Inv X pins Y H s->Xcd vs us->t vs Y H Q->
  wpAny (model X.prog X.w) X.A (assignInOrder ((assignEach ts X.env).map (·.2)) us) (λ_ s'=>∃Y' H',Inv X pins Y' H' s'/\Q Y' H') X.xe s
abbrev Yja:=V->V->V->Hp->(Hp->Prop)->Prop
def Yns (X:Cx)(t:Yja):Prop:=
 ∀(pins:List (Addr×Obj)) (s:Shared) (Y:St) (H:Hp) (o i v:V) (ov iv u:Value) (Q:Hp->Prop),Inv X pins Y H s->Xd3 o ov->Xd3 i iv->Xd3 v u->t o i v H Q->
  wpAny (model X.prog X.w) X.A (setItem ov iv u) (λ_ s'=>∃H',Inv X pins Y H' s'/\Q H') X.xe s
abbrev TIp:=V->V->Hp->VK->Prop
def PIp (X:Cx)(op:Operator)(t:TIp):Prop:=
 ∀(pins:List (Addr×Obj)) (s:Shared) (Y:St) (H:Hp) (x y:V) (v u:Value) (Q:VK),Inv X pins Y H s->Xd3 x v->Xd3 y u->t x y H Q->
  wpAny (model X.prog X.w) X.A (inplaceOp op v u) (EP X pins Y Q) X.xe s
section
variable {X:Cx}{pos:Pos}
def Xu5 (i:Nat):TG:=λv Y H Q=>Q (Y.set i (some v)) H
theorem Xau {i:Nat}{x:Str}(hN:X.N.Nodup)(hi:X.N[i]?=some x)(hx:Loc X.env.scope x)(hf:X.fn x=true∨X.env.scope.names.lookup x=some .local:=by first |exact .inl rfl |exact .inr rfl |assumption):PG X (.Name x pos) (Xu5 i):=by
 intro pins s Y H v u Q I r h
 exact wpAny_assign_Name (Xqa I hN hi hx r (λs' I'=>⟨_,H,I',h⟩) hf)
def Yoo:TGs:=λvs Y H Q=>vs=[]/\Q Y H
def Ylj (t:TG)(u:TGs):TGs:=λvs Y H Q=>∃v r,vs=v::r/\t v Y H λY' H'=>u r Y' H' Q
theorem Xeg:PGs X [] Yoo:=by
 intro pins s Y H vs us Q I r h
 obtain⟨e,h⟩:=h
 subst e
 cases r
 exact assignInOrder_nil ⟨Y,H,I,h⟩
theorem Xbc {e:Expr}{es:List Expr}{t:TG}{u:TGs}(h1:PG X e t)(h2:PGs X es u)
  (hs:(assignEach (e::es) X.env).map (·.2)=assign e X.env::(assignEach es X.env).map (·.2):=by rfl):PGs X (e::es) (Ylj t u):=by
 intro pins s Y H vs us Q I r h
 obtain⟨v,vr,e1,h⟩:=h
 subst e1
 cases r with
 |cons r rr=>
  rw[hs]
  refine assignInOrder_cons (thn (h1 pins s Y H _ _ _ I r h) λ_ s1 ⟨Y1,H1,I1,q1⟩=>?_)
  exact h2 pins s1 Y1 H1 _ _ Q I1 rr q1
def Yon (K:Frag)(n:Nat)(t:TGs):TG:=λv Y H Q=>∃a xs,v = .ref a/\SqT K H a xs/\xs.length=n/\t xs Y H Q
theorem Xgl {es:List Expr}{k:Nat}{t:TGs}{n:Nat}(hc:X.calm=true)(h:PGs X es t)
  (hn:(assignEach es X.env).length=n:=by rfl) (hst:(assignEach es X.env).findIdx? (·.1)=none:=by rfl):PG X (.Tuple es k pos) (Yon X.K n t):=by
 intro pins s Y H v u Q I r hw
 obtain⟨a,xs,e1,hq,hl,hw⟩:=hw
 subst e1
 cases r
 obtain⟨its,rv,ht,hz⟩:=I.tuple hq
 refine assign_Tuple_tuple (I.ok.hd hc) ht (by simp[hn,<- hl,rv.length]) hst λh' hx=>?_
 have I1:Inv X pins Y H {s with heap:=h'}:=I.kept (t':=s.toks) λb o e=>hx b o (ne_of_lt (lt_size e)) e
 exact h pins _ Y H xs _ Q I1 (by simpa using rv) hw
def Yml (to ti:TE)(t:Yja):TG:=λv Y H Q=>to Y H λo H1=>ti Y H1 λi H2=>t o i v H2 λH3=>Q Y H3
theorem Xwd {o i:Expr}{to ti:TE}{t:Yja}(ho:PE X o to)(hi:PE X i ti)(hs:Yns X t)
  (ha:∀v,assign (.Subscript o i pos) X.env v=(do
   let ov <- holding [v] (eval o X.env)
   let iv <- holding [v,ov] (eval i X.env)
   standAt pos
   holding [v,ov,iv] (setItem ov iv v)
   release [v,ov,iv] []):=by intro _;rfl):PG X (.Subscript o i pos) (Yml to ti t):=by
 intro pins s Y H v u Q I r h
 rw[ha]
 refine wpAny_bind (wpAny_holding (thn (ho pins s Y H _ I h) λov s1 ⟨x,H1,I1,r1,q1⟩=>?_))
 refine wpAny_bind (wpAny_holding (thn (hi pins s1 Y H1 _ I1 q1) λiv s2 ⟨y,H2,I2,r2,q2⟩=>?_))
 refine wpAny_bind (wpAny_standAt (wpAny_bind (wpAny_holding (thn (hs pins s2 Y H2 x y v ov iv u _ I2 r1 r2 r q2) λ_ s3 ⟨H3,I3,q3⟩=>?_))))
 exact wpAny_release ⟨Y,H3,I3,q3⟩
def Ycr (te:TE)(g:TG):TS:=λD Y H=>te Y H λx H1=>g x Y H1 D.nx
theorem Xnv {tg e:Expr}{te:TE}{g:TG}(he:PE X e te)(hg:PG X tg g)(hs:swapsWithSole [tg] e pos.line X.env=pure false:=by rfl)(hw:swappedStores [tg] e X.env=pure none:=by rfl)
  (h1:(assignEach [tg] X.env).map (·.2)=[assign tg X.env]:=by rfl):PS X (.Assign [tg] e pos) (Ycr te g):=by
 intro pins s Y H D I h
 refine wpAny_Assign_stores (thn (he pins s Y H _ I h) λv s1 ⟨x,H1,I1,r1,q1⟩=>?_) hs hw
 rw[h1]
 exact thn (hg pins s1 Y H1 x v _ I1 r1 q1) λ_ s2 q=>q
theorem Xa9 {i:Nat}{x:Str}{e:Expr}{te:TE}{pos':Pos}(hN:X.N.Nodup)(hi:X.N[i]?=some x)(hx:Loc X.env.scope x)(he:PE X e te)(hs:swapsWith e (some (.Name x pos')) pos.line X.env=pure false:=by rfl)(hf:X.fn x=true∨X.env.scope.names.lookup x=some .local:=by first |exact .inl rfl |exact .inr rfl |assumption):
  PS X (.Assign [.Name x pos'] e pos) (Ycr te (Xu5 i)):=by
 intro pins s Y H D I h
 refine wpAny_Assign_Name (thn (he pins s Y H _ I h) λv s1 ⟨y,H1,I1,r1,q1⟩=>?_) hs
 exact Xqa I1 hN hi hx r1 (λs2 I2=>⟨_,H1,I2,q1⟩) hf
def Yn1 (i:Nat)(te:TE)(ti:TIp):TS:=λD Y H=>∃x,Y[i]?=some (some x)/\te Y H λy H1=>ti x y H1 λz H2=>D.nx (Y.set i (some z)) H2
theorem Yfn {i:Nat}{x:Str}{e:Expr}{te:TE}{op:Operator}{ti:TIp}{pos':Pos}(hN:X.N.Nodup)(hi:X.N[i]?=some x)(hx:Loc X.env.scope x)(he:PE X e te)(ho:PIp X op ti)(hf:X.fn x=true∨X.env.scope.names.lookup x=some .local:=by first |exact .inl rfl |exact .inr rfl |assumption):
  PS X (.AugAssign (.Name x pos') op e pos) (Yn1 i te ti):=by
 intro pins s Y H D I h
 obtain⟨v,e1,h⟩:=h
 obtain⟨m,hn,hl⟩:=I.loc
 have vis:Vis X.env.scope x:=by rcases hx with k |k;exact .inl k;exact .inr (.inl k)
 obtain⟨u,r,l⟩:=hl i x v hi e1 vis
 refine wpAny_AugAssign_Name ?_
 have go:wpAny (model X.prog X.w) X.A (eval e X.env) (λw s₂=>wpAny (model X.prog X.w) X.A (inplaceOp op u w) (λr s₃=>wpAny (model X.prog X.w) X.A (storeName X.env x r) (λ_=>SP X pins D .next) X.xe s₃) X.xe s₂) X.xe s:=by
  refine thn (he pins s Y H _ I h) λw s1 ⟨y,H1,I1,r1,q1⟩=>?_
  refine thn (ho pins s1 Y H1 v y u w _ I1 r r1 q1) λz s2 ⟨zv,H2,I2,r2,q2⟩=>?_
  exact Xqa I2 hN hi hx r2 (λs3 I3=>⟨_,H2,I3,q2⟩) hf
 rcases l with⟨hk,hm⟩ | ⟨hk,c,hc,hcell⟩
 .exact wpAny_loadName_local I.ok.kind hk hn hm go
 .rcases hk with hk |hk
  .exact wpAny_loadName_cell I.ok.kind hk hc hcell go
  .rcases hx with k |k
   .have:X.env.scope.names.lookup x=some .free:=hk
    rw[k]at this;cases this
   .have:X.env.scope.names.lookup x=some .free:=hk
    rw[k]at this;cases this
def Yjp (to ti te:TE)(tget:V->V->Hp->VK->Prop)(tip:TIp)(tset:Yja):TS:=λD Y H=>to Y H λo H1=>ti Y H1 λi H2=>tget o i H2 λx H3=>te Y H3 λy H4=>tip x y H4 λz H5=>tset o i z H5 λH6=>D.nx Y H6
def Yo8 (X:Cx)(t:V->V->Hp->VK->Prop):Prop:=
 ∀(pins:List (Addr×Obj)) (s:Shared) (Y:St) (H:Hp) (o i:V) (ov iv:Value) (Q:VK),Inv X pins Y H s->Xd3 o ov->Xd3 i iv->t o i H Q->
  wpAny (model X.prog X.w) X.A (getItem ov iv) (EP X pins Y Q) X.xe s
theorem Yac {o i e:Expr}{to ti te:TE}{tget:V->V->Hp->VK->Prop}{tip:TIp}{tset:Yja}{op:Operator}{tpos:Pos}(ho:PE X o to)(hi:PE X i ti)(hg:Yo8 X tget)(he:PE X e te)(hp:PIp X op tip)(hs:Yns X tset)
  (ha:∀ov iv new,augStore i ov iv new=(do holding [new,ov,iv] (setItem ov iv new);release [new,ov,iv] [];pure .next):=by intros;rfl):PS X (.AugAssign (.Subscript o i tpos) op e pos) (Yjp to ti te tget tip tset):=by
 intro pins s Y H D I h
 refine wpAny_AugAssign_SubscriptAny (thn (ho pins s Y H _ I h) λov s1 ⟨x1,H1,I1,r1,q1⟩=>?_) ha
 refine thn (hi pins s1 Y H1 _ I1 q1) λiv s2 ⟨x2,H2,I2,r2,q2⟩=>?_
 refine thn (hg pins s2 Y H2 x1 x2 ov iv _ I2 r1 r2 q2) λold s3 ⟨x3,H3,I3,r3,q3⟩=>?_
 refine thn (he pins s3 Y H3 _ I3 q3) λv s4 ⟨x4,H4,I4,r4,q4⟩=>?_
 refine thn (hp pins s4 Y H4 x3 x4 old v _ I4 r3 r4 q4) λnew s5 ⟨x5,H5,I5,r5,q5⟩=>?_
 exact thn (hs pins s5 Y H5 x1 x2 x5 ov iv new _ I5 r1 r2 r5 q5) λ_ s6 ⟨H6,I6,q6⟩=>⟨Y,H6,I6,q6⟩
def ipI (f:Int->Int->Int):TIp:=λx y H Q=>∃i j,x = .int i/\y = .int j/\Q (.int (f i j)) H
theorem Yf0:PIp X .Add (ipI λi j=>i+j):=by
 intro pins s Y H x y v u Q I r1 r2 h
 obtain⟨i,j,e1,e2,q⟩:=h
 subst e1;subst e2
 obtain⟨t,rfl⟩:=r1
 obtain⟨t',rfl⟩:=r2
 exact iadd_int ⟨.int _,H,I.tok _,⟨_,rfl⟩,q⟩
theorem Yk8:PIp X .Sub (ipI λi j=>i-j):=by
 intro pins s Y H x y v u Q I r1 r2 h
 obtain⟨i,j,e1,e2,q⟩:=h
 subst e1;subst e2
 obtain⟨t,rfl⟩:=r1
 obtain⟨t',rfl⟩:=r2
 exact isub_int ⟨.int _,H,I.tok _,⟨_,rfl⟩,q⟩
end
section
variable {X:Cx}{pos:Pos}
def Yey (c:TT)(tb:TS):TS:=λD Y H=>∃W:Nat->St->Hp->Prop,(∃m,W m Y H)/\∀m Y H,W m Y H->
 c Y H λb H1=>if b=true then ∃N:St->Hp->Prop,(∀Y' H',N Y' H'->∃m',m'<m/\W m' Y' H')/\tb {D with nx:=N,ct:=N,bk:=D.nx} Y H1 else D.nx Y H1
theorem Xwb {c:Expr}{body:List Stmt}{tc:TT}{tb:TS}(hp:PassesOwn (model X.prog X.w) X.A X.env X.xe)(hc:PT X c tc)(hb:PSs X body tb):PS X (.While c body [] pos) (Yey tc tb):=by
 intro pins s Y H D I h
 obtain⟨W,⟨m0,w0⟩,turn⟩:=h
 refine wpAny_While (codeAny_whileLoop (λn s'=>∃Y' H',Inv X pins Y' H' s'/\W n Y' H') ?_ m0 ⟨Y,H,I,w0⟩)
 rintro n s1 ⟨Y1,H1,I1,w1⟩
 refine wpAny_passesOwn hp (thn (hc pins s1 Y1 H1 _ I1 (turn n Y1 H1 w1)) λb s2 ⟨H2,I2,q2⟩=>?_)
 cases b with
 |true=>
  obtain⟨N,hN,q2⟩:=q2
  rw[if_pos rfl]
  refine wpAny_passesOwn hp (thn (hb pins s2 Y1 H2 _ I2 q2) λf s3 q3=>?_)
  cases f with
  |next=>
   obtain⟨Y3,H3,I3,n3⟩:=q3
   obtain⟨m',hm,w3⟩:=hN Y3 H3 n3
   exact⟨m',hm,Y3,H3,I3,w3⟩
  |cont=>
   obtain⟨Y3,H3,I3,n3⟩:=q3
   obtain⟨m',hm,w3⟩:=hN Y3 H3 n3
   exact⟨m',hm,Y3,H3,I3,w3⟩
  |brk=>exact q3
  |ret v=>exact q3
 |false=>
  rw[if_neg Bool.false_ne_true]
  exact wpAny_execs_nil ⟨Y1,H2,I2,q2⟩
end
structure It where
 go:Nat->Hp->Prop
 yld:Nat->Hp->V->Hp->Prop
 stop:Nat->Hp->Prop
def Xrp (X:Cx)(pins:List (Addr×Obj))(H:Hp)(b:Addr):Prop:=
 H b=none/\b≠X.env.locals/\b∉X.fs/\(b∈X.ex∨X.s₀.heap.objs.size<=b)/\(∀x c,X.env.cells.lookup x=some c->c≠b)/\∀p∈X.pn++pins,p.1≠b
theorem Inv.fpOk {X:Cx}{pins:List (Addr×Obj)}{Y:St}{H H':Hp}{s:Shared}{b:Addr}(I:Inv X pins Y H s)(hb:s.heap.objs.size<=b)(hn:H' b=none):Xrp X pins H' b:=by
 refine⟨hn,ne_of_gt (lt_of_lt_of_le I.lt hb),I.nofs hb,.inr (le_trans I.sz hb),λx c e z=>?_,λp hp z=>?_⟩
 .obtain ⟨v,q⟩:=I.cell x c e
  exact absurd (lt_of_lt_of_le q.lt (by rw[z];exact hb)) (lt_irrefl _)
 .exact absurd (lt_of_lt_of_le (lt_size (I.pin p hp).1) (by rw[z];exact hb)) (lt_irrefl _)
structure Turn (P:Program) (w:World) (K:Frag) (tg:Expr) (J:It) (fp:List Addr) (it:Addr) (tn:Nat->Heap->Prop):Prop where
 mem:it∈fp
 obj:∀i h,tn i h->∀b∈fp,∃o,h.get? b=some o/\∀v,o.data≠.cell v
 keep:∀i h h',tn i h->(∀b∈fp,∀o,h.get? b=some o->h'.get? b=some o)->tn i h'
 item:∀(X:Cx),X.prog=P->X.w=w->X.K=K->X.calm=true->∀(i:Nat) (pins:List (Addr×Obj)) (s:Shared) (Y:St) (H:Hp) (E:Value->Shared->Prop),Inv X pins Y H s->(∀b∈fp,Xrp X pins H b)->tn i s.heap->J.go i H->
  wpAny (model P w) X.A (pyNext (.ref it)) (λr s1=>∃u,r=some u/\
   wpAny (model P w) X.A (letOwnedTupleGo tg (.ref it) u) (λ_ s2=>∃x H',Inv X pins Y H' s2/\Xd3 x u/\J.yld i H x H'/\tn (i+1) s2.heap/\∀b∈fp,H' b=none) E s1) E s
 done:∀(X:Cx),X.prog=P->X.w=w->X.K=K->X.calm=true->∀(i:Nat) (pins:List (Addr×Obj)) (s:Shared) (Y:St) (H:Hp) (E:Value->Shared->Prop),Inv X pins Y H s->(∀b∈fp,Xrp X pins H b)->tn i s.heap->J.stop i H->
  wpAny (model P w) X.A (pyNext (.ref it)) (λr s1=>r=none/\Inv X pins Y H s1) E s
 self:∀(A:Around) (i:Nat) (s:Shared) (Q:Value->Shared->Prop) (E:Value->Shared->Prop),tn i s.heap->Q (.ref it) s->wpAny (model P w) A (pyIter (.ref it)) Q E s
abbrev TI:=St->Hp->(It->Hp->Prop)->Prop
def PIE (X:Cx)(pins:List (Addr×Obj))(Y:St)(tg:Expr)(R:It->Hp->Prop)(itv:Value)(s2:Shared):Prop:=
 ∃(it:Addr) (fp:List Addr) (tn:Nat->Heap->Prop) (J:It) (H':Hp),itv = .ref it/\Inv X pins Y H' s2/\Turn X.prog X.w X.K tg J fp it tn/\tn 0 s2.heap/\(∀b∈fp,Xrp X pins H' b)/\R J H'
def PI (X:Cx)(tg iter:Expr)(wi:TI):Prop:=
 ∀(pins:List (Addr×Obj)) (s:Shared) (Y:St) (H:Hp) (R:It->Hp->Prop),Inv X pins Y H s->wi Y H R->
  wpAny (model X.prog X.w) X.A (eval iter X.env) (λv s1=>wpAny (model X.prog X.w) X.A (pyIter v) (PIE X pins Y tg R) X.xe s1) X.xe s
theorem Xtc {δ:Model}{A:Around}{E:Value->Shared->Prop}{s:Shared}{tg:Expr}{it:Addr}{u:Value}{o:Obj}{n:String}{vs:Array Value}{Q:Unit->Shared->Prop}(ho:s.heap.get? it=some o)(hc:o.cls = .type n)(hd:o.data = .fields vs)
  (hn:["enumerate","zip","dict_itemiterator","dict_reverseitemiterator","odict_iterator","itertools.zip_longest","itertools.pairwise"].contains n=false) (hQ:Q () s):wpAny δ A (letOwnedTupleGo tg (.ref it) u) Q E s:=by
 unfold letOwnedTupleGo
 cases tg <;> first
  |exact wpAny_pure hQ
  | (cases u<;>first
    |exact wpAny_pure hQ
    | (refine wpAny_bind (wpAny_load ho ?_)
       rw[hc,hd]
       show wpAny δ A (if (["enumerate","zip","dict_itemiterator","dict_reverseitemiterator","odict_iterator","itertools.zip_longest","itertools.pairwise"].contains n && vs[0]?==some (rawInt _))=true then _ else _) Q E s
       rw[if_neg (by intro h;rw[hn,Bool.false_and]at h;cases h)]
       exact wpAny_pure hQ))
def Itl (K:Frag)(a:Addr):It:=
 ⟨λi H=>∃xs x,SqL K H a xs/\xs[i]?=some x,λi H x H'=>H'=H/\∀xs,SqL K H a xs->xs[i]?=some x,λi H=>∃xs,SqL K H a xs/\xs.length<=i⟩
def Itt (K:Frag)(a:Addr):It:=
 ⟨λi H=>∃xs x,SqT K H a xs/\xs[i]?=some x,λi H x H'=>H'=H/\∀xs,SqT K H a xs->xs[i]?=some x,λi H=>∃xs,SqT K H a xs/\xs.length<=i⟩
def Itr (lo:Int)(n:Nat):It:=⟨λi _=>i<n,λi H x H'=>H'=H/\x = .int (lo+i),λi _=>n<=i⟩
theorem Xyt {P:Program}{w:World}{K:Frag}{tg:Expr}(a it:Addr):Turn P w K tg (Itl K a) [it] it (λi h=>h.IsListIter it a i) where
 mem:=by simp
 obj:=λi h st b hb=>by
  have e:b=it:=by simpa using hb
  subst e
  obtain⟨o,e,c,d⟩:=st
  exact⟨o,e,λv z=>by rw[d]at z;cases z⟩
 keep:=λi h h' st k=>st.at λo e=>k it (by simp) o e
 item:=by
  intro X hP hw hK hc i pins s Y H E I hf st hg
  subst hP hw hK
  obtain⟨xs,x,hq,hx⟩:=hg
  obtain⟨its,rv,p,hz⟩:=I.list hq
  obtain⟨u,hu,ru⟩:=rv.get hx
  obtain⟨f0,f1,f2,f3,f4,f5⟩:=hf it (by simp)
  refine wpAny_pyNext_list_item st p.isList (x:=u) (by simpa using hu) λh' st' sb=>?_
  have I1:Inv X pins Y H {s with heap:=h'}:=I.turned (t':=s.toks) (λb o hb e=>(sb.2 b hb).trans e) f0 f1 f3 f4 f5
  obtain⟨o,e,c,d⟩:=id st'
  exact⟨u,rfl,Xtc (s:={s with heap:=h'}) e c d (by decide) ⟨x,H,I1,ru,⟨rfl,λys hy=>by rw[I.list_inj hy hq];exact hx⟩,st',λb hb=>(hf b hb).1⟩⟩
 done:=by
  intro X hP hw hK hc i pins s Y H E I hf st hg
  subst hP hw hK
  obtain⟨xs,hq,hx⟩:=hg
  obtain⟨its,rv,p,hz⟩:=I.list hq
  obtain⟨f0,f1,f2,f3,f4,f5⟩:=hf it (by simp)
  have hl:=rv.length
  exact wpAny_pyNext_list_end (I.ok.hd hc) st p.isList (by simp;omega) λh' eb=>⟨rfl,I.turned (t':=s.toks) (λb o hb e=>eb b o hb e) f0 f1 f3 f4 f5⟩
 self:=λ_ _ _ _ _ st h=>wpAny_pyIter_listiter st h
theorem Xxb {P:Program}{w:World}{K:Frag}{tg:Expr}(a it:Addr):Turn P w K tg (Itt K a) [it] it (λi h=>h.IsTupleIter it a i) where
 mem:=by simp
 obj:=λi h st b hb=>by
  have e:b=it:=by simpa using hb
  subst e
  obtain⟨o,e,c,d⟩:=st
  exact⟨o,e,λv z=>by rw[d]at z;cases z⟩
 keep:=λi h h' st k=>st.at λo e=>k it (by simp) o e
 item:=by
  intro X hP hw hK hc i pins s Y H E I hf st hg
  subst hP hw hK
  obtain⟨xs,x,hq,hx⟩:=hg
  obtain⟨its,rv,p,hz⟩:=I.tuple hq
  obtain⟨u,hu,ru⟩:=rv.get hx
  obtain⟨f0,f1,f2,f3,f4,f5⟩:=hf it (by simp)
  refine wpAny_pyNext_tuple_item st (show s.heap.IsTuple a its.toArray from p) (x:=u) (by simpa using hu) λh' st' sb=>?_
  have I1:Inv X pins Y H {s with heap:=h'}:=I.turned (t':=s.toks) (λb o hb e=>(sb.2 b hb).trans e) f0 f1 f3 f4 f5
  obtain⟨o,e,c,d⟩:=id st'
  exact⟨u,rfl,Xtc (s:={s with heap:=h'}) e c d (by decide) ⟨x,H,I1,ru,⟨rfl,λys hy=>by rw[I.tuple_inj hy hq];exact hx⟩,st',λb hb=>(hf b hb).1⟩⟩
 done:=by
  intro X hP hw hK hc i pins s Y H E I hf st hg
  subst hP hw hK
  obtain⟨xs,hq,hx⟩:=hg
  obtain⟨its,rv,p,hz⟩:=I.tuple hq
  obtain⟨f0,f1,f2,f3,f4,f5⟩:=hf it (by simp)
  have hl:=rv.length
  exact wpAny_pyNext_tuple_end (I.ok.hd hc) st (show s.heap.IsTuple a its.toArray from p) (by simp;omega) λh' eb=>⟨rfl,I.turned (t':=s.toks) (λb o hb e=>eb b o hb e) f0 f1 f3 f4 f5⟩
 self:=λ_ _ _ _ _ st h=>wpAny_pyIter_tupleiter st h
theorem Xxc {P:Program}{w:World}{K:Frag}{tg:Expr}(it:Addr)(lo:Int)(n:Nat):Turn P w K tg (Itr lo n) [it] it (λi h=>IsRangeIter h it (lo+(i:Nat)*1) ((n:Int)-(i:Nat)) 1) where
 mem:=by simp
 obj := λi h st b hb=>by
  have e:b=it:=by simpa using hb
  subst e
  exact⟨_,st,λv z=>by
   have z':Data.fields _=Data.cell v:=z
   cases z'⟩
 keep:=λi h h' st k=>k it (by simp) _ st
 item:=by
  intro X hP hw hK hc i pins s Y H E I hf st hg
  subst hP hw hK
  obtain⟨f0,f1,f2,f3,f4,f5⟩:=hf it (by simp)
  have W:=Walks.range (prog:=X.prog) (w:=X.w) (I.ok.hd hc) it lo 1 n
  refine W.item i s _ _ hg st λv h' tk hv st' kk=>?_
  obtain⟨t,rfl⟩:=hv
  have I1:Inv X pins Y H {s with heap:=h',toks:=tk}:=I.turned (λb o hb e=>kk b o (by simpa using hb) e) f0 f1 f3 f4 f5
  refine⟨_,rfl,Xtc (s:={s with heap:=h',toks:=tk}) (n := "range_iterator") st' rfl rfl (by decide) ⟨.int (lo+i),H,I1,⟨t,?_⟩,⟨rfl,rfl⟩,st',λb hb=>(hf b hb).1⟩⟩
  rw[mul_one]
 done:=by
  intro X hP hw hK hc i pins s Y H E I hf st hg
  subst hP hw hK
  obtain⟨f0,f1,f2,f3,f4,f5⟩:=hf it (by simp)
  exact wpAny_pyNext_range_end (I.ok.hd hc) st (by have:n<=i:=hg;omega) λh' eb=>⟨rfl,I.turned (t':=s.toks) (λb o hb e=>eb b o hb e) f0 f1 f3 f4 f5⟩
 self:=λ_ _ _ _ _ st h=>wpAny_pyIter_rangeiter st h
section
variable {X:Cx}{tg:Expr}
def Yio (K:Frag)(tl:TE):TI:=λY H R=>tl Y H λx H1=>∃a,x = .ref a/\(∃xs,SqL K H1 a xs)/\R (Itl K a) H1
def Yok (K:Frag)(tl:TE):TI:=λY H R=>tl Y H λx H1=>∃a,x = .ref a/\(∃xs,SqT K H1 a xs)/\R (Itt K a) H1
theorem Xdw {l:Expr}{tl:TE}(hl:PE X l tl):PI X tg l (Yio X.K tl):=by
 intro pins s Y H R I h
 refine thn (hl pins s Y H _ I h) λv s1 ⟨x,H1,I1,r1,q1⟩=>?_
 obtain⟨a,e,⟨xs,hq⟩,q⟩:=q1
 subst e
 cases r1
 obtain⟨its,rv,p,hz⟩:=I1.list hq
 refine wpAny_pyIter_list p.isList ?_
 refine⟨s1.heap.objs.size,[s1.heap.objs.size],_,_,H1,rfl,I1.kept (t':=s1.toks) λb o e=>get?_push_of_some _ e,Xyt a _,⟨_,get?_push_size _ rfl,rfl,rfl⟩,λb hb=>?_,q⟩
 have e:b=s1.heap.objs.size:=by simpa using hb
 subst e
 exact I1.fpOk (Nat.le_refl _) (I1.hok.fresh (Nat.le_refl _))
theorem Yfp {l:Expr}{tl:TE}(hl:PE X l tl):PI X tg l (Yok X.K tl):=by
 intro pins s Y H R I h
 refine thn (hl pins s Y H _ I h) λv s1 ⟨x,H1,I1,r1,q1⟩=>?_
 obtain⟨a,e,⟨xs,hq⟩,q⟩:=q1
 subst e
 cases r1
 obtain⟨its,rv,p,hz⟩:=I1.tuple hq
 refine wpAny_pyIter_tuple (show s1.heap.IsTuple a its.toArray from p) ?_
 refine⟨s1.heap.objs.size,[s1.heap.objs.size],_,_,H1,rfl,I1.kept (t':=s1.toks) λb o e=>get?_push_of_some _ e,Xxb a _,⟨_,get?_push_size _ rfl,rfl,rfl⟩,λb hb=>?_,q⟩
 have e:b=s1.heap.objs.size:=by simpa using hb
 subst e
 exact I1.fpOk (Nat.le_refl _) (I1.hok.fresh (Nat.le_refl _))
theorem Ydh {pins:List (Addr×Obj)}{Y:St}{H:Hp}{s:Shared}{R:It->Hp->Prop}{E:Value->Shared->Prop}{lo hi:Int}{t u v:Tok}{tk:Nat}(I:Inv X pins Y H s)(h1 : -(2^62)<=lo)(h2:lo<2^62)(h3 : -(2^62)<=hi)(h4:hi<2^62)
  (q:R (Itr lo (hi-lo).toNat) H):wpAny (model X.prog X.w) X.A (pyIter (.ref s.heap.objs.size)) (PIE X pins Y tg R) E {s with heap:=s.heap.push {cls:=.type "range",data:=.fields #[.int lo t,.int hi u,.int 1 v]},toks:=tk}:=by
 refine wpAny_pyIter_range (IsRange.new ..) (small_one h1 h2 h3 h4) ?_
 have I1:Inv X pins Y H {s with heap:=s.heap.push {cls:=.type "range",data:=.fields #[.int lo t,.int hi u,.int 1 v]},toks:=tk}:=I.kept λb o e=>get?_push_of_some _ e
 refine⟨(s.heap.push {cls:=.type "range",data:=.fields #[.int lo t,.int hi u,.int 1 v]}).objs.size,[(s.heap.push {cls:=.type "range",data:=.fields #[.int lo t,.int hi u,.int 1 v]}).objs.size],_,_,H,rfl,
  I1.kept (t':=tk) λb o e=>get?_push_of_some _ e,Xxc _ lo (hi-lo).toNat,?_,λb hb=>?_,q⟩
 .have e1:lo+((0:Nat):Int)*1=lo:=by simp
  have e2:(((hi-lo).toNat:Nat):Int)-((0:Nat):Int)=Builtin.Range.rangeSize lo hi 1:=by rw[rangeSize_one];split<;>omega
  show IsRangeIter _ _ (lo+((0:Nat):Int)*1) ((((hi-lo).toNat:Nat):Int)-((0:Nat):Int)) 1
  rw[e1,e2]
  exact get?_push_size _ rfl
 .have e:b=(s.heap.push {cls:=.type "range",data:=.fields #[.int lo t,.int hi u,.int 1 v]}).objs.size:=by simpa using hb
  subst e
  exact I1.fpOk (Nat.le_refl _) (I1.hok.fresh (Nat.le_refl _))
def Ylg (ta:TA):TI:=λY H R=>ta Y H λvs H1=>∃j:Int,vs=[.int j]/\-(2^62)<=j/\j<2^62/\R (Itr 0 j.toNat) H1
theorem Xdv {a:Expr}{ta:TA}{p pos:Pos}(hg:Gl X "range")(hm:X.mg "range"=none)(ha:PA X [a] ta)(hs:starEach [a] X.env=[(false,eval a X.env)]:=by rfl):PI X tg (.Call (.Name "range" p) [a] [] pos) (Ylg ta):=by
 intro pins s Y H R I h
 refine Call_ (Xgn I hg hm boot_range (PyProof.Rows.callWith_type1 (thn (ha pos pins s Y H _ I h) λus s1 ⟨vs,H1,I1,r1,q1⟩=>?_) hs rfl))
 obtain⟨j,e,q1,q2,q⟩:=q1
 subst e
 cases r1 with
 |cons r rr=>
  cases rr
  obtain⟨t,rfl⟩:=r
  exact call_range_1 (Ydh I1 (by omega) (by omega) q1 q2 (by simpa using q))
def Yn0 (wi:TI)(g:TG)(tb:TS):TS:=λD Y H=>wi Y H λJ H1=>∃W:Nat->Nat->St->Hp->Prop,(∃m,W 0 m Y H1)/\∀i m Y H,W i m Y H->
 (J.stop i H/\D.nx Y H)∨(J.go i H/\∃N:St->Hp->Prop,(∀Y' H',N Y' H'->∃m',m'<m/\W (i+1) m' Y' H')/\∀x H',J.yld i H x H'->g x Y H' λY2 H2=>tb {D with nx:=N,ct:=N,bk:=D.nx} Y2 H2)
def Xwc (fp:List Addr)(h:Heap):List (Addr×Obj):=fp.filterMap λb=>(h.get? b).map λo=>(b,o)
theorem Xi3 {fp:List Addr}{h:Heap}{b:Addr}{o:Obj}(hb:b∈fp)(e:h.get? b=some o):(b,o)∈Xwc fp h:=List.mem_filterMap.mpr ⟨b,hb,by rw[e];rfl⟩
theorem Ya2 {fp:List Addr}{h:Heap}{p:Addr×Obj}(hp:p∈Xwc fp h):p.1∈fp/\h.get? p.1=some p.2:=by
 obtain⟨b,hb,e⟩:=List.mem_filterMap.mp hp
 cases q:h.get? b with
 |none=>rw[q]at e;cases e
 |some o=>
  rw[q]at e
  have e':(b,o)=p:=Option.some.inj e
  subst e'
  exact⟨hb,q⟩
theorem Inv.pinned {pins:List (Addr×Obj)}{Y:St}{H:Hp}{s:Shared}{fp:List Addr}(I:Inv X pins Y H s)(hf:∀b∈fp,Xrp X pins H b)(ho:∀b∈fp,∃o,s.heap.get? b=some o/\∀v,o.data≠.cell v):Inv X (pins++Xwc fp s.heap) Y H s:=
 I.pins_of λp hp=>(mem_append.mp hp).elim (λz=>I.pin p (mem_append_right _ z)) λz=>by
  obtain⟨hb,e⟩:=Ya2 z
  obtain⟨f0,f1,f2,_⟩:=hf p.1 hb
  obtain⟨o,e',d⟩:=ho p.1 hb
  rw[e]at e';cases e'
  exact⟨e,f0,f1,f2,d⟩
theorem Inv.unpinned {pins pl:List (Addr×Obj)}{Y:St}{H:Hp}{s:Shared}(I:Inv X (pins++pl) Y H s):Inv X pins Y H s:=I.pins_of λp hp=>I.pin p (mem_append_right _ (mem_append_left _ hp))
theorem Xcv {iter:Expr}{body:List Stmt}{wi:TI}{g:TG}{tb:TS}{pos:Pos}(hp:PassesOwn (model X.prog X.w) X.A X.env X.xe)(hc:X.calm=true)(hi:PI X tg iter wi)(hg:PG X tg g)(hb:PSs X body tb)
  (hs:∀x,foldedSetIterable iter X.env x=pure x:=by intro _;rfl):PS X (.For tg iter body [] pos) (Yn0 wi g tb):=by
 intro pins s Y H D I h
 refine wpAny_For (thn (hi pins s Y H _ I h) λv s1 h1=>thn h1 λitv s2 h2=>?_) hs
 obtain⟨it,fp,tn,J,H2,e,I2,T,st2,f2,W,⟨m0,w0⟩,turn⟩:=h2
 subst e
 -- what stays true of the iterator's objects through the loop
 have stat:∀{H':Hp},(∀b∈fp,H' b=none)->∀b∈fp,Xrp X pins H' b:=λhn b hb=>⟨hn b hb,(f2 b hb).2⟩
 refine codeAny_forLoop_any (λn s'=>∃i Y' H',Inv X pins Y' H' s'/\tn i s'.heap/\(∀b∈fp,H' b=none)/\W i n Y' H') ?_ m0 ⟨0,Y,H2,I2,st2,λb hb=>(f2 b hb).1,w0⟩
 rintro n s3 ⟨i,Y3,H3,I3,st3,fr3,w3⟩
 rcases turn i n Y3 H3 w3 with⟨stop,qn⟩ | ⟨go,N,hN,step⟩
 .refine wpAny_passesOwn hp (thn (T.done X rfl rfl rfl hc i pins s3 Y3 H3 X.xe I3 (stat fr3) st3 stop) λr s4 ⟨hr,I4⟩=>?_)
  subst hr
  exact wpAny_execs_nil ⟨Y3,H3,I4,qn⟩
 .refine wpAny_passesOwn hp (thn (T.item X rfl rfl rfl hc i pins s3 Y3 H3 X.xe I3 (stat fr3) st3 go) λr s4 ⟨u,hr,h4⟩=>?_)
  subst hr
  refine wpAny_passesOwn hp (thn h4 λ_ s5 ⟨x,H5,I5,r5,y5,st5,fr5⟩=>?_)
  have I5':=I5.pinned (stat fr5) (T.obj _ _ st5)
  refine wpAny_passesOwn hp (thn (hg _ s5 Y3 H5 x u _ I5' r5 (step x H5 y5)) λ_ s6 ⟨Y6,H6,I6,q6⟩=>?_)
  refine wpAny_passesOwn hp (thn (hb _ s6 Y6 H6 _ I6 q6) λf s7 q7=>?_)
  have again:∀{Y7:St} {H7:Hp},Inv X (pins++Xwc fp s5.heap) Y7 H7 s7->N Y7 H7->∃m,m<n/\∃i Y' H',Inv X pins Y' H' s7/\tn i s7.heap/\(∀b∈fp,H' b=none)/\W i m Y' H':=λ{Y7 H7} I7 n7=>by
   obtain⟨m',hm,w7⟩:=hN Y7 H7 n7
   refine⟨m',hm,i+1,Y7,H7,I7.unpinned,T.keep _ _ _ st5 λb hb o e=>(I7.pin (b,o) (mem_append_right _ (mem_append_right _ (Xi3 hb e)))).1,λb hb=>?_,w7⟩
   obtain⟨o,e,d⟩:=T.obj _ _ st5 b hb
   exact (I7.pin (b,o) (mem_append_right _ (mem_append_right _ (Xi3 hb e)))).2.1
  cases f with
  |next=>obtain⟨Y7,H7,I7,n7⟩:=q7;exact again I7 n7
  |cont=>obtain⟨Y7,H7,I7,n7⟩:=q7;exact again I7 n7
  |brk=>obtain⟨Y7,H7,I7,q7⟩:=q7;exact⟨Y7,H7,I7.unpinned,q7⟩
  |ret v=>obtain⟨x7,Y7,H7,I7,r7,q7⟩:=q7;exact⟨x7,Y7,H7,I7.unpinned,r7,q7⟩
end
abbrev R2:=V->V->Hp->VK->Prop
def OpR (X:Cx)(f:Value->Value->Sem Value)(r:R2):Prop:=
 ∀(pins:List (Addr×Obj)) (s:Shared) (Y:St) (H:Hp) (x y:V) (v u:Value) (Q:VK),Inv X pins Y H s->Xd3 x v->Xd3 y u->r x y H Q->
  wpAny (model X.prog X.w) X.A (f v u) (EP X pins Y Q) X.xe s
def UnR (X:Cx)(f:Value->Sem Value)(r:V->Hp->VK->Prop):Prop:=
 ∀(pins:List (Addr×Obj)) (s:Shared) (Y:St) (H:Hp) (x:V) (v:Value) (Q:VK),Inv X pins Y H s->Xd3 x v->r x H Q->
  wpAny (model X.prog X.w) X.A (f v) (EP X pins Y Q) X.xe s
def Xhq (X:Cx)(f:Value)(r:List V->Hp->VK->Prop):Prop:=
 ∀(pins:List (Addr×Obj)) (s:Shared) (Y:St) (H:Hp) (xs:List V) (us:List Value) (Q:VK),Inv X pins Y H s->Xcd xs us->r xs H Q->
  wpAny (model X.prog X.w) X.A (call f us) (EP X pins Y Q) X.xe s
def Ypr (X:Cx)(r:V->Hp->(Bool->Hp->Prop)->Prop):Prop:=
 ∀(pins:List (Addr×Obj)) (s:Shared) (Y:St) (H:Hp) (x:V) (v:Value) (Q:Bool->Hp->Prop),Inv X pins Y H s->Xd3 x v->r x H Q->
  wpAny (model X.prog X.w) X.A (truthy v) (TP X pins Y Q) X.xe s
def tOp (r:R2)(ta tb:TE):TE:=λY H Q=>ta Y H λx H1=>tb Y H1 λy H2=>r x y H2 Q
def tUn (r:V->Hp->VK->Prop)(ta:TE):TE:=λY H Q=>ta Y H λx H1=>r x H1 Q
def rI (C:Int->Int->Prop)(g:Int->Int->V):R2:=λx y H Q=>∃i j,x = .int i/\y = .int j/\C i j/\Q (g i j) H
def rI0 (g:Int->Int->V):R2:=λx y H Q=>∃i j,x = .int i/\y = .int j/\Q (g i j) H
def rU (g:Int->V):V->Hp->VK->Prop:=λx H Q=>∃i,x = .int i/\Q (g i) H
section
variable {X:Cx}{a b c:Expr}{ta tb tc:TE}{pos:Pos}
theorem Ynl (ha:PE X a ta)(hb:PE X b tb){pins:List (Addr×Obj)}{s:Shared}{Y:St}{H:Hp}{R:V->V->Hp->Prop}(I:Inv X pins Y H s)
  (h:ta Y H λx H1=>tb Y H1 λy H2=>R x y H2) {Q:Value->Shared->Prop} {f:Value->Value->Sem Value}
  (hf:∀v u s2 x y H2,Inv X pins Y H2 s2->Xd3 x v->Xd3 y u->R x y H2->wpAny (model X.prog X.w) X.A (f v u) Q X.xe s2):
  wpAny (model X.prog X.w) X.A (eval a X.env) (λv s₁=>wpAny (model X.prog X.w) X.A (eval b X.env) (λu s₂=>wpAny (model X.prog X.w) X.A (f v u) Q X.xe s₂) X.xe s₁) X.xe s:=by
 refine thn (ha pins s Y H _ I h) λv s1 ⟨x,H1,I1,r1,q1⟩=>?_
 refine thn (hb pins s1 Y H1 _ I1 q1) λu s2 ⟨y,H2,I2,r2,q2⟩=>?_
 exact hf v u s2 x y H2 I2 r1 r2 q2
theorem Xaw {op:Operator}{r:R2}(ho:OpR X (binaryOp op) r)(ha:PE X a ta)(hb:PE X b tb):PE X (.BinOp a op b pos) (tOp r ta tb):=by
 intro pins s Y H Q I h
 exact wpAny_BinOp (Ynl ha hb I h λv u s2 x y H2 I2 rx ry q=>ho pins s2 Y H2 x y v u Q I2 rx ry q)
theorem Xss {op:UnaryOp}{r:V->Hp->VK->Prop}(ho:UnR X (unaryOp op) r)(ha:PE X a ta):PE X (.UnaryOp op a pos) (tUn r ta):=by
 intro pins s Y H Q I h
 exact UnaryOp_ (thn (ha pins s Y H _ I h) λv s1 ⟨x,H1,I1,r1,q1⟩=>ho pins s1 Y H1 x v Q I1 r1 q1)
theorem opI {f:Value->Value->Sem Value}{C:Int->Int->Prop}{g:Int->Int->Int}
  (rule:∀(i j:Int) (t u:Tok) (s:Shared) (Q:Value->Shared->Prop) (E:Value->Shared->Prop),C i j->Q (.int (g i j) s.toks) {s with toks:=s.toks+1}->wpAny (model X.prog X.w) X.A (f (.int i t) (.int j u)) Q E s):
  OpR X f (rI C λi j=>.int (g i j)):=by
 intro pins s Y H x y v u Q I rx ry h
 obtain⟨i,j,rfl,rfl,hc,q⟩:=h
 obtain⟨t,rfl⟩:=rx
 obtain⟨t',rfl⟩:=ry
 exact rule i j t t' s _ _ hc ⟨.int (g i j),H,I.tok _,⟨_,rfl⟩,q⟩
theorem Ymi {f:Value->Value->Sem Value}{g:Int->Int->Int}
  (rule:∀(i j:Int) (t u:Tok) (s:Shared) (Q:Value->Shared->Prop) (E:Value->Shared->Prop),Q (.int (g i j) s.toks) {s with toks:=s.toks+1}->wpAny (model X.prog X.w) X.A (f (.int i t) (.int j u)) Q E s):
  OpR X f (rI0 λi j=>.int (g i j)):=by
 intro pins s Y H x y v u Q I rx ry h
 obtain⟨i,j,rfl,rfl,q⟩:=h
 obtain⟨t,rfl⟩:=rx
 obtain⟨t',rfl⟩:=ry
 exact rule i j t t' s _ _ ⟨.int (g i j),H,I.tok _,⟨_,rfl⟩,q⟩
theorem Ymj {f:Value->Value->Sem Value}{g:Int->Int->Bool}
  (rule:∀(i j:Int) (t u:Tok) (s:Shared) (Q:Value->Shared->Prop) (E:Value->Shared->Prop),Q (.bool (g i j)) s->wpAny (model X.prog X.w) X.A (f (.int i t) (.int j u)) Q E s):
  OpR X f (rI0 λi j=>.bl (g i j)):=by
 intro pins s Y H x y v u Q I rx ry h
 obtain⟨i,j,rfl,rfl,q⟩:=h
 obtain⟨t,rfl⟩:=rx
 obtain⟨t',rfl⟩:=ry
 exact rule i j t t' s _ _ ⟨.bl (g i j),H,I,rfl,q⟩
def Ypb (i j:Int):Prop:=0<j/\j<1073741824
def Ynv (i j:Int):Prop:=0<=j/\j<=1000000/\i.natAbs<2^64
def Yjc (i j:Int):Prop:=(-(2^64)<i/\i<2^64)∨(-(2^64)<j/\j<2^64)
theorem Yjc.ok {i j:Int}(h:Yjc i j):IntMulOk i j:=by
 rcases h with⟨h1,h2⟩ | ⟨h1,h2⟩
 .exact .of_left (intBits_le_64 h1 h2)
 .exact .of_right (intBits_le_64 h1 h2)
theorem Xxa (k:Nat):(0:Int)<=2^k:=by
 rw[two_pow_cast]
 exact Int.natCast_nonneg _
theorem Xc5:OpR X (binaryOp .Add) (rI0 λi j=>.int (i+j)):=Ymi λ_ _ _ _ _ _ _ q=>add_int q
theorem Xdl:OpR X (binaryOp .Sub) (rI0 λi j=>.int (i-j)):=Ymi λ_ _ _ _ _ _ _ q=>sub_int q
theorem Xet:OpR X (binaryOp .Mult) (rI Yjc λi j=>.int (i*j)):=opI λ_ _ _ _ _ _ _ hc q=>mul_int q hc.ok
theorem Xlm:OpR X (binaryOp .FloorDiv) (rI Ypb λi j=>.int (i / j)):=opI λi j _ _ _ _ _ hc q=>by
 have h1:(0:Int)<j:=hc.1
 have h2:j<1073741824:=hc.2
 exact floordiv_int (by omega) (by rw[Int.fdiv_eq_ediv_of_nonneg i (by omega)];exact q) (.inl (PyProof.noPylong_small (by omega)))
theorem Xdm:OpR X (binaryOp .Mod) (rI (λ_ j=>0<j) λi j=>.int (i%j)):=opI λi j _ _ _ _ _ hc q=>by
 have h1:(0:Int)<j:=hc
 exact mod_int' (by omega) (by rw[Int.fmod_eq_emod_of_nonneg i (by omega)];exact q)
theorem Yfs:OpR X (binaryOp .Pow) (rI Ynv λi j=>.int (i^j.toNat)):=opI λ_ _ _ _ _ _ _ hc q=>pow_int_small hc.1 hc.2.1 hc.2.2 q
theorem Xim:OpR X (binaryOp .LShift) (rI Ynv λi j=>.int (i*2^j.toNat)):=opI λ_ _ _ _ _ _ _ hc q=>lshift_int_small hc.1 hc.2.1 hc.2.2 q
theorem Xps:OpR X (binaryOp .RShift) (rI (λ_ j=>0<=j) λi j=>.int (i / 2^j.toNat)):=opI λi j _ _ _ _ _ hc q=>
 rshift_int hc (by rw[Int.fdiv_eq_ediv_of_nonneg i (Xxa _)];exact q)
theorem Yat:OpR X (binaryOp .BitAnd) (rI0 λi j=>.int (Builtin.bitAnd i j)):=Ymi λ_ _ _ _ _ _ _ q=>and_int q
theorem Ym4:OpR X (binaryOp .BitOr) (rI0 λi j=>.int (Builtin.bitOr i j)):=Ymi λ_ _ _ _ _ _ _ q=>or_int q
theorem unI {f:Value->Sem Value}{g:Int->Int}
  (rule:∀(i:Int) (t:Tok) (s:Shared) (Q:Value->Shared->Prop) (E:Value->Shared->Prop),Q (.int (g i) s.toks) {s with toks:=s.toks+1}->wpAny (model X.prog X.w) X.A (f (.int i t)) Q E s):
  UnR X f (rU λi=>.int (g i)):=by
 intro pins s Y H x v Q I rx h
 obtain⟨i,rfl,q⟩:=h
 obtain⟨t,rfl⟩:=rx
 exact rule i t s _ _ ⟨.int (g i),H,I.tok _,⟨_,rfl⟩,q⟩
theorem Xl1:UnR X (unaryOp .USub) (rU λi=>.int (-i)):=unI λ_ _ _ _ _ q=>neg_int q
end
def Yn3:V->V->Bool
 | .non,.non=>true | .non,.int _=>true | .int _,.non=>true | .non,.bl _=>true | .bl _,.non=>true | .non,.str _=>true | .str _,.non=>true
 | .int _,.int _=>true | .bl _,.bl _=>true | .str _,.str _=>true | .byt _,.byt _=>true
 | .int _,.str _=>true | .str _,.int _=>true | .bl _,.str _=>true | .str _,.bl _=>true
 |_,_=>false
def rEq:R2:=λx y H Q=>Yn3 x y=true/\Q (.bl (decide (x=y))) H
def rNe:R2:=λx y H Q=>Yn3 x y=true/\Q (.bl (!decide (x=y))) H
theorem Ybz {i j:Int}:decide (V.int i=V.int j)=(i==j):=by
 rw[Bool.eq_iff_iff]
 simp
theorem Yf2 {i j:Bool}:decide (V.bl i=V.bl j)=(i==j):=by
 rw[Bool.eq_iff_iff]
 simp
theorem Yby {i j:Str}:decide (V.str i=V.str j)=(i==j):=by
 rw[Bool.eq_iff_iff]
 simp
theorem Yb0 {i j:Array UInt8}:decide (V.byt i=V.byt j)=(i.toList==j.toList):=by
 rw[Bool.eq_iff_iff]
 cases i
 cases j
 simp
section
variable {X:Cx}{a b c:Expr}{ta tb tc:TE}{pos:Pos}
theorem Xb1 {pins:List (Addr×Obj)}{Y:St}{H:Hp}{s:Shared}{Q:VK}{k k':Bool}(I:Inv X pins Y H s)(q:Q (.bl k) H)(e:k=k'):EP X pins Y Q (.bool k') s:=by
 subst e
 exact⟨.bl k,H,I,rfl,q⟩
theorem Xln:OpR X (compareOp .Eq) rEq:=by
 intro pins s Y H x y v u Q I rx ry h
 obtain⟨hs,q⟩:=h
 cases x with
 |non=>
  cases rx
  cases y with
  |non=>cases ry;exact PySem.EqNone.eq_none_none (Xb1 I q (by simp))
  |bl j=>cases ry;exact PySem.EqNone.eq_none_bool (Xb1 I q (by simp))
  |int j=>obtain⟨t',rfl⟩:=ry;exact PySem.EqNone.eq_none_int (Xb1 I q (by simp))
  |str j=>obtain⟨t',rfl⟩:=ry;exact PySem.EqNone.eq_none_str (Xb1 I q (by simp))
  |_=>exact absurd (show false=true from hs) Bool.false_ne_true
 |bl i=>
  cases rx
  cases y with
  |non=>cases ry;exact PySem.EqNone.eq_bool_none (Xb1 I q (by simp))
  |bl j=>cases ry;exact eq_bool (Xb1 I q Yf2)
  |str j=>obtain⟨t',rfl⟩:=ry;exact PySem.EqMixed.eq_bool_str (Xb1 I q (by simp))
  |_=>exact absurd (show false=true from hs) Bool.false_ne_true
 |int i=>
  obtain⟨t,rfl⟩:=rx
  cases y with
  |non=>cases ry;exact PySem.EqNone.eq_int_none (Xb1 I q (by simp))
  |int j=>obtain⟨t',rfl⟩:=ry;exact eq_int (Xb1 I q Ybz)
  |str j=>obtain⟨t',rfl⟩:=ry;exact PySem.EqMixed.eq_int_str (Xb1 I q (by simp))
  |_=>exact absurd (show false=true from hs) Bool.false_ne_true
 |str i=>
  obtain⟨t,rfl⟩:=rx
  cases y with
  |non=>cases ry;exact PySem.EqNone.eq_str_none (Xb1 I q (by simp))
  |bl j=>cases ry;exact PySem.EqMixed.eq_str_bool (Xb1 I q (by simp))
  |int j=>obtain⟨t',rfl⟩:=ry;exact PySem.EqMixed.eq_str_int (Xb1 I q (by simp))
  |str j=>obtain⟨t',rfl⟩:=ry;exact eq_str (Xb1 I q Yby)
  |_=>exact absurd (show false=true from hs) Bool.false_ne_true
 |byt i=>
  obtain⟨t,rfl⟩:=rx
  cases y with
  |byt j=>obtain⟨t',rfl⟩:=ry;exact PySem.W.eq_bytes (Xb1 I q Yb0)
  |_=>exact absurd (show false=true from hs) Bool.false_ne_true
 |_=>cases y<;>exact absurd (show false=true from hs) Bool.false_ne_true
theorem Xxv:OpR X (compareOp .NotEq) rNe:=by
 intro pins s Y H x y v u Q I rx ry h
 obtain⟨hs,q⟩:=h
 cases x with
 |non=>
  cases rx
  cases y with
  |non=>cases ry;exact PySem.EqNone.ne_none_none (Xb1 I q (by simp))
  |bl j=>cases ry;exact PySem.EqNone.ne_none_bool (Xb1 I q (by simp))
  |int j=>obtain⟨t',rfl⟩:=ry;exact PySem.EqNone.ne_none_int (Xb1 I q (by simp))
  |str j=>obtain⟨t',rfl⟩:=ry;exact PySem.EqNone.ne_none_str (Xb1 I q (by simp))
  |_=>exact absurd (show false=true from hs) Bool.false_ne_true
 |bl i=>
  cases rx
  cases y with
  |non=>cases ry;exact PySem.EqNone.ne_bool_none (Xb1 I q (by simp))
  |bl j=>cases ry;exact ne_bool (Xb1 I q (congrArg not Yf2))
  |str j=>obtain⟨t',rfl⟩:=ry;exact PySem.EqMixed.ne_bool_str (Xb1 I q (by simp))
  |_=>exact absurd (show false=true from hs) Bool.false_ne_true
 |int i=>
  obtain⟨t,rfl⟩:=rx
  cases y with
  |non=>cases ry;exact PySem.EqNone.ne_int_none (Xb1 I q (by simp))
  |int j=>obtain⟨t',rfl⟩:=ry;exact ne_int (Xb1 I q (congrArg not Ybz))
  |str j=>obtain⟨t',rfl⟩:=ry;exact PySem.EqMixed.ne_int_str (Xb1 I q (by simp))
  |_=>exact absurd (show false=true from hs) Bool.false_ne_true
 |str i=>
  obtain⟨t,rfl⟩:=rx
  cases y with
  |non=>cases ry;exact PySem.EqNone.ne_str_none (Xb1 I q (by simp))
  |bl j=>cases ry;exact PySem.EqMixed.ne_str_bool (Xb1 I q (by simp))
  |int j=>obtain⟨t',rfl⟩:=ry;exact PySem.EqMixed.ne_str_int (Xb1 I q (by simp))
  |str j=>obtain⟨t',rfl⟩:=ry;exact ne_str (Xb1 I q (congrArg not Yby))
  |_=>exact absurd (show false=true from hs) Bool.false_ne_true
 |byt i=>
  obtain⟨t,rfl⟩:=rx
  cases y with
  |byt j=>obtain⟨t',rfl⟩:=ry;exact PySem.W.ne_bytes (Xb1 I q (congrArg not Yb0))
  |_=>exact absurd (show false=true from hs) Bool.false_ne_true
 |_=>cases y<;>exact absurd (show false=true from hs) Bool.false_ne_true
theorem Xn1:OpR X (compareOp .Lt) (rI0 λi j=>.bl (decide (i<j))):=Ymj λ_ _ _ _ _ _ _ q=>lt_int q
theorem Ydv:OpR X (compareOp .LtE) (rI0 λi j=>.bl (decide (i<=j))):=Ymj λ_ _ _ _ _ _ _ q=>le_int q
theorem Yhs:OpR X (compareOp .Gt) (rI0 λi j=>.bl (decide (j<i))):=Ymj λ_ _ _ _ _ _ _ q=>gt_int q
theorem Yht:OpR X (compareOp .GtE) (rI0 λi j=>.bl (decide (j<=i))):=Ymj λ_ _ _ _ _ _ _ q=>ge_int q
theorem Ykn:OpR X (compareOp .Is) (λx y H Q=>y = .non/\Q (.bl (decide (x = .non))) H):=by
 intro pins s Y H x y v u Q I rx ry h
 obtain⟨rfl,q⟩:=h
 cases ry
 refine is_none_gen (Xb1 I q ?_)
 cases x<;>first
  | (cases rx;rfl)
  | (obtain⟨t,rfl⟩:=rx;rfl)
theorem Yhr:OpR X (compareOp .IsNot) (λx y H Q=>y = .non/\Q (.bl (!decide (x = .non))) H):=by
 intro pins s Y H x y v u Q I rx ry h
 obtain⟨rfl,q⟩:=h
 cases ry
 refine isnot_none_gen (Xb1 I q ?_)
 cases x<;>first
  | (cases rx;rfl)
  | (obtain⟨t,rfl⟩:=rx;rfl)
theorem Xbo (b:Expr){op:CmpOp}(h:op≠.In:=by decide)(h2:op≠.NotIn:=by decide):behindInMarks op b=false:=by
 have e1:(op==CmpOp.In)=false:=by cases op<;>first |rfl |exact absurd rfl h
 have e2:(op==CmpOp.NotIn)=false:=by cases op<;>first |rfl |exact absurd rfl h2
 cases b<;>simp[behindInMarks,e1,e2]
theorem Xew {op:CmpOp}{r:R2}(ho:OpR X (compareOp op) r)(ha:PE X a ta)(hb:PE X b tb)(hm:behindInMarks op b=false):PE X (.Compare a [op] [b] pos) (tOp r ta tb):=by
 intro pins s Y H Q I h
 exact wpAny_Compare1 (Ynl ha hb I h λv u s2 x y H2 I2 rx ry q=>ho pins s2 Y H2 x y v u Q I2 rx ry q) hm
def Yji (t:TE):TT:=λY H Q=>t Y H λx H'=>∃k,x = .bl k/\Q k H'
theorem Xbq {op:CmpOp}{r:R2}(ho:OpR X (compareOp op) r)(ha:PE X a ta)(hb:PE X b tb)(hm:behindInMarks op b=false):PT X (.Compare a [op] [b] pos) (Yji (tOp r ta tb)):=by
 intro pins s Y H Q I h
 refine wpAny_isTrue_Compare1 (thn (ha pins s Y H _ I h) λv s1 ⟨x,H1,I1,r1,q1⟩=>thn (hb pins s1 Y H1 _ I1 q1) λu s2 ⟨y,H2,I2,r2,q2⟩=>
  thn (ho pins s2 Y H2 x y v u _ I2 r1 r2 q2) λc s3 ⟨z,H3,I3,r3,k,e,q3⟩=>?_) hm
 subst e
 cases r3
 exact wpAny_truthy_bool ⟨H3,I3,q3⟩
def Ye1 (r r':R2)(ta tb tc:TE):TE:=λY H Q=>ta Y H λx H1=>tb Y H1 λy H2=>r x y H2 λz H3=>∃k,z = .bl k/\
 (if k=true then tc Y H3 λw' H4=>r' y w' H4 Q else Q (.bl false) H3)
theorem Xwh {op op':CmpOp}{r r':R2}(ho:OpR X (compareOp op) r)(ho':OpR X (compareOp op') r')(ha:PE X a ta)(hb:PE X b tb)(hc:PE X c tc)
  (hm:lastMarks [op,op'] [b,c]=false:=by with_unfolding_all rfl):PE X (.Compare a [op,op'] [b,c] pos) (Ye1 r r' ta tb tc):=by
 intro pins s Y H Q I h
 refine Compare_chain (thn (ha pins s Y H _ I h) λv s1 ⟨x,H1,I1,r1,q1⟩=>chain_link (thn (hb pins s1 Y H1 _ I1 q1) λu s2 ⟨y,H2,I2,r2,q2⟩=>
  thn (ho pins s2 Y H2 x y v u _ I2 r1 r2 q2) λd s3 ⟨z,H3,I3,r3,k,e,q3⟩=>?_)) hm
 subst e
 cases r3
 refine wpAny_truthy_bool ?_
 cases k with
 |false=>exact ite_ff ⟨.bl false,H3,I3,rfl,q3⟩
 |true=>exact ite_tt (chain_last (thn (hc pins s3 Y H3 _ I3 q3) λw' s4 ⟨z',H4,I4,r4,q4⟩=>ho' pins s4 Y H4 y z' u w' Q I4 r2 r4 q4))
def Ynq (K:Frag)(x:V)(H:Hp)(k:Bool):Prop:=
 match x with
 | .non=>k=false
 | .bl b=>k=b
 | .int i=>k=(i != 0)
 | .str y=>y.length<=sizeLine/\k=((y.length:Int) != 0)
 | .byt y=>y.size<=sizeLine/\k=((y.size:Int) != 0)
 | .ref p=>(∃xs,SqL K H p xs/\k = !xs.isEmpty)∨(∃xs,SqT K H p xs/\k = !xs.isEmpty)∨∃kvs,H p=some (.dK kvs)/\k = !kvs.isEmpty
 |_=>False
theorem Xya {κ:Type}{kvs:List (κ×V)}{vs:List (κ×Value)}(r:KV kvs vs):(!vs.isEmpty) = !kvs.isEmpty:=by
 cases r<;>rfl
theorem Xpz {xs:List V}{its:List Value}(r:Xcd xs its):(!its.toArray.isEmpty) = !xs.isEmpty:=by
 cases r<;>simp
theorem Xod:(sizeLine:Nat)<2^63:=by rw[sizeLine_eq];decide
theorem Yjg:Ypr X (λx H Q=>∃k,Ynq X.K x H k/\Q k H):=by
 intro pins s Y H x v Q I rx h
 obtain⟨k,e,q⟩:=h
 have hl:=Xod
 have hs:sizeLine=16777216:=sizeLine_eq
 cases x with
 |non=>
  cases rx
  have e':k=false:=e
  subst e'
  exact truthy_none ⟨H,I,q⟩
 |bl b=>
  cases rx
  have e':k=b:=e
  subst e'
  exact wpAny_truthy_bool ⟨H,I,q⟩
 |int i=>
  obtain⟨t,rfl⟩:=rx
  have e':k=(i != 0):=e
  subst e'
  exact PySem.P.truthy_int ⟨H,I,q⟩
 |str y=>
  obtain⟨t,rfl⟩:=rx
  obtain⟨hy,e'⟩:y.length<=sizeLine/\k=((y.length:Int) != 0):=e
  subst e'
  exact PySem.P.truthy_str (by omega) ⟨H,I.tok _,q⟩
 |byt y=>
  obtain⟨t,rfl⟩:=rx
  obtain⟨hy,e'⟩:y.size<=sizeLine/\k=((y.size:Int) != 0):=e
  subst e'
  exact PySem.W.truthy_bytes (by omega) ⟨H,I.tok _,q⟩
 |ref p=>
  cases rx
  have e':(∃xs,SqL X.K H p xs/\k = !xs.isEmpty)∨(∃xs,SqT X.K H p xs/\k = !xs.isEmpty)∨∃kvs,H p=some (.dK kvs)/\k = !kvs.isEmpty:=e
  rcases e' with⟨xs,hx,e'⟩ | ⟨xs,hx,e'⟩ | ⟨kvs,hx,e'⟩
  .subst e'
   obtain⟨its,r,pl,hz⟩:=I.list hx
   have hlen:=r.length
   exact wpAny_truthy_list pl.isList (by simp only[size_toArray];omega) ⟨H,I.tok _,by rw[Xpz r];exact q⟩
  .subst e'
   obtain⟨its,r,pl,hz⟩:=I.tuple hx
   have hlen:=r.length
   exact truthy_tuple pl (by simp only[size_toArray];omega) ⟨H,I.tok _,by rw[Xpz r];exact q⟩
  .subst e'
   obtain⟨hz,hS,vs,r,m⟩:kvs.length<=sizeLine/\(p==sysModules)=false/\∃vs,KV kvs vs/\s.heap.DictOf (Xur X.prog X.w) p vs:=I.hok p _ hx
   have hlen:kvs.length=vs.length:=Paired.length r
   exact wpAny_truthy_dict hS m (by omega) ⟨H,I.tok _,by rw[Xya r];exact q⟩
 |_=>exact (show False from e).elim
theorem Ydk (ha:PE X a ta)(he:∀whole,isTrue a X.env whole=(do let v <- whole;standAt a.pos;holding [v] (truthy v))):
  PT X a (λY H Q=>ta Y H λx H'=>∃k,Ynq X.K x H' k/\Q k H'):=by
 intro pins s Y H Q I h
 exact isTrue_plain (thn (ha pins s Y H _ I h) λv s1 ⟨x,H1,I1,r1,q1⟩=>Yjg pins s1 Y H1 x v Q I1 r1 q1) (he _)
theorem Xlo:OpR X (binaryOp .Add) (λx y H Q=>∃i j,x = .str i/\y = .str j/\i.length+j.length<=sizeLine/\Q (.str (i++j)) H):=by
 intro pins s Y H x y v u Q I rx ry h
 obtain⟨i,j,rfl,rfl,hz,q⟩:=h
 obtain⟨t,rfl⟩:=rx
 obtain⟨t',rfl⟩:=ry
 exact add_str (λt' tk=>⟨.str (i++j),H,I.tok _,⟨_,rfl⟩,q⟩) hz
theorem Xu3:OpR X (inplaceOp .Add) (λx y H Q=>∃i j,x = .str i/\y = .str j/\i.length+j.length<=sizeLine/\Q (.str (i++j)) H):=by
 intro pins s Y H x y v u Q I rx ry h
 obtain⟨i,j,rfl,rfl,hz,q⟩:=h
 obtain⟨t,rfl⟩:=rx
 obtain⟨t',rfl⟩:=ry
 exact iadd_str (λt' tk=>⟨.str (i++j),H,I.tok _,⟨_,rfl⟩,q⟩) hz
theorem Xhx {x:V}{us:List Value}(r:Xcd [x] us):∃u,us=[u]/\Xd3 x u:=by
 cases r with
 |cons r1 r2=>cases r2;exact⟨_,rfl,r1⟩
theorem Ycl {x y:V}{us:List Value}(r:Xcd [x,y] us):∃u w',us=[u,w']/\Xd3 x u/\Xd3 y w':=by
 cases r with
 |cons r1 r2=>
  cases r2 with
  |cons r3 r4=>cases r4;exact⟨_,_,rfl,r1,r3⟩
theorem Xrg:Xhq X (.builtin "abs") (λxs H Q=>∃i,xs=[.int i]/\Q (.int (if i<0 then -i else i)) H):=by
 intro pins s Y H xs us Q I r h
 obtain⟨i,rfl,q⟩:=h
 obtain⟨u,rfl,t,rfl⟩:=Xhx r
 exact call_abs_int λu tk=>⟨.int (if i<0 then -i else i),H,I.tok _,⟨_,rfl⟩,q⟩
theorem Yb4 (hc:X.calm=true):Xhq X (.builtin "max") (λxs H Q=>∃i j,xs=[.int i,.int j]/\Q (.int (if j > i then j else i)) H):=by
 intro pins s Y H xs us Q I r h
 obtain⟨i,j,rfl,q⟩:=h
 obtain⟨u,w',rfl,⟨t,rfl⟩,⟨t',rfl⟩⟩:=Ycl r
 refine max_two_ints (I.ok.hd hc) λh' tk k=>⟨_,H,I.kept k,?_,q⟩
 by_cases hj:j > i
 .rw [if_pos hj,if_pos hj];exact⟨_,rfl⟩
 .rw [if_neg hj,if_neg hj];exact⟨_,rfl⟩
theorem Xk4:Xhq X (.type "int") (λxs H Q=>(∃i,xs=[.int i]/\Q (.int i) H)∨∃k,xs=[.bl k]/\Q (.int (if k then 1 else 0)) H):=by
 intro pins s Y H xs us Q I r h
 rcases h with⟨i,rfl,q⟩ | ⟨k,rfl,q⟩
 .obtain ⟨u,rfl,t,rfl⟩:=Xhx r
  exact call_int_int ⟨.int i,H,I,⟨_,rfl⟩,q⟩
 .obtain ⟨u,rfl,r1⟩:=Xhx r
  cases r1
  exact call_int_bool ⟨.int (if k then 1 else 0),H,I.tok _,⟨_,rfl⟩,q⟩
theorem Xtr:Xhq X (.type "str") (λxs H Q=>∃i,xs=[.int i]/\i.natAbs.log2<1920/\Q (.str (toString i)) H):=by
 intro pins s Y H xs us Q I r h
 obtain⟨i,rfl,hz,q⟩:=h
 obtain⟨u,rfl,t,rfl⟩:=Xhx r
 exact PySem.P.str_of_int hz ⟨.str _,H,I.tok _,⟨_,rfl⟩,q⟩
end
structure ObjM (h:Heap) (x dx C:Addr) (mA:Str->Option Value):Prop where
 obj:h.get? x=some (instObj C dx)
 ns:h.Ns1 dx mA
 ne:dx≠x
theorem Ya9 {h:Heap}{dx:Addr}{mA:Str->Option Value}(n:h.Ns1 dx mA):∃od,h.get? dx=some od/\∀name,lookIn name od=some (mA name):=by
 obtain⟨o,es,ep,ho,hd,hk,_,hm⟩:=n
 refine⟨o,ho,λname=>?_⟩
 have e:=hm name
 unfold nsFind findBy at e
 rw[<- Array.find?_toList]at e
 unfold lookIn
 rw[hd]
 dsimp only
 split
 .rename_i y q
  rw[q]at e
  exact congrArg some e
 .rename_i q
  rw[q]at e
  have a:es.toList.any (·.refKey)=false:=by
   rw[List.any_eq_false]
   intro y hy
   obtain⟨z,t,hkey⟩:=hk y (Array.mem_toList_iff.mp hy)
   simp[DictEntry.refKey,hkey]
  have a':¬ es.toList.any (·.refKey)=true:=by rw[a];exact Bool.false_ne_true
  rw[if_neg a']
  exact congrArg some e
theorem ObjM.look {h:Heap}{x dx C:Addr}{mA:Str->Option Value}(I:ObjM h x dx C mA):∃od,PySem.W.InstAt h x (instObj C dx) C (some od)/\∀name,lookIn name od=some (mA name):=
 let⟨od,ho,hl⟩:=Ya9 I.ns
 ⟨od,⟨I.obj,rfl,rfl,ho⟩,hl⟩
section
variable {prog:Program}{w:World}{A:Around}{E:Value->Shared->Prop}{s:Shared}{K:Frag}{x dx C f:Addr}{mA:Str->Option Value}{name:Str}{v:Value}
theorem Yip {expr:Bool}{Q:Value->Shared->Prop}(X:K.In s.heap)(I:ObjM s.heap x dx C mA)(hg:plainGet K C name=true)(hh:hasDictIn K C=true)
  (ha:findIn K (.ref C) name=some none) (hv:mA name=some v) (hv':handedIn v=true) (h:Q v {s with toks:=s.toks+1}):
  wpAny (model prog w) A (getAttr (.ref x) name expr) Q E s:=by
 obtain⟨od,J,hl⟩:=I.look
 exact PySem.W.get_value X J (plainGet_of hg).1 (PySem.W.findObj_own hh ha rfl (by rw[hl,hv])) hv' h
theorem Yef {pl:Sem Bool}{Q:Value×List Value->Shared->Prop}(X:K.In s.heap)(I:ObjM s.heap x dx C mA)(hg:plainGet K C name=true)
  (hf:findIn K (.ref C) name=some (some (.ref f))) (ht:isFn K (.ref f)=true) (hv:mA name=none) (h:Q (.ref f,[.ref x]) s):
  wpAny (model prog w) A (getMethod (.ref x) name pl) Q E s:=by
 obtain⟨od,J,hl⟩:=I.look
 exact PySem.W.method_fn X J (plainGet_of hg).1 (plainGet_of hg).2 hf (beq_iff_eq.mp ht) (by show (lookIn name od).map (·.isSome)=some false;rw[hl,hv];rfl) h
theorem Ygw {ns:List Str}{Q:Unit->Shared->Prop}(X:K.In s.heap)(I:ObjM s.heap x dx C mA)
  (hs:findIn K (.ref C) "__setattr__"=some (some (.builtin "object.__setattr__"))) (hp:plainOver K C=true) (ht:takerIn K C name=some none) (hh:hasDictIn K C=true)
  (hw:PySem.Within mA ns) (hsz:ns.length<=sizeLine)
  (h:∀h',ObjM h' x dx C (λy=>if y=name then some v else mA y)->Heap.SameBut dx s.heap h'->Q () {s with heap:=h',toks:=s.toks+2}):
  wpAny (model prog w) A (setAttr (.ref x) name v) Q E s:=by
 obtain⟨od,J,hl⟩:=I.look
 refine PySem.W.set_plain X J hs (PySem.W.osa_open (s:={s with toks:=s.toks+1}) (r:=none) X J hp ht λb=>?_)
 obtain⟨cd,hc,hd'⟩:=PySem.W.any_some hh
 have hx:s.heap.get? x=some ⟨.ref C,some dx,.plain,#[]⟩:=I.obj
 refine wpAny_bind (wpAny_pure (wpAny_bind (wpAny_bind (wpAny_loadPart hx (wpAny_bind (PySem.W.Looks.here (s:={s with toks:=s.toks+1}) (PySem.W.looks_clsIn X hc) ?_))))))
 rw[hd']
 refine wpAny_pure (a:=some dx) (wpAny_bind (wpAny_pure (wpAny_bind ?_)))
 refine wpAny_nsSet1 (s:={s with toks:=s.toks+1}) I.ns λh' hn2 hs2=>?_
 obtain⟨oD,esD,epD,hoD,hdD,hcD⟩:=hn2.count (PySem.Within.cons name v hw)
 refine wpAny_bind (wpAny_lookBehind hoD (by rw[hdD];exact pastItsLine_dict (le_trans hcD (by rw[length_cons];omega))) ?_)
 exact wpAny_pure (h _ ⟨(hs2.2 _ (Ne.symm I.ne)).trans I.obj,hn2,I.ne⟩ hs2)
theorem Yd6 {R:Result->Shared->Prop}{vs:List Value}{kw:List (Str×Value)}(X:K.In s.heap)(hm:makesIn K C=true)
  (hi:findIn K (.ref C) "__init__"=some (some (.ref f))) (hf:PySem.W.typeIn K (.ref f)=some (.type "function"))
  (h:codeAny (model prog w) (A.under (.builtin "type.__call__" ⟨.ref C::vs,kw⟩)) (.call (.ref f) ⟨.ref (s.heap.objs.size+1)::vs,kw⟩) (PySem.W.InitBack (s.heap.objs.size+1) R)
   {s with heap:=(s.heap.push emptyDict).push (instObj C s.heap.objs.size)}):
  codeAny (model prog w) A (.call (.ref C) ⟨vs,kw⟩) R s:=by
 obtain⟨hh,g,d,t,os⟩:=s
 exact PySem.W.make_core (PySem.W.makes_of X hm) (PySem.W.looks_findIn X hi) (λself=>PySem.W.bind_fn X self hf) (.inl rfl) h
end
def Xnu (f:Str)(v:V):List (Str×V)->List (Str×V)
 | []=>[(f,v)]
 | (g,x)::r=>if g=f then (g,v)::r else (g,x)::Xnu f v r
theorem Xob (f g:Str)(v:V):∀fs:List (Str×V),(Xnu f v fs).lookup g=if g=f then some v else fs.lookup g
 | []=>by
  show List.lookup g [(f,v)]=_
  by_cases h:g=f
  .have hb:(g==f)=true:=beq_iff_eq.mpr h
   simp only[List.lookup,hb,if_pos h]
  .have hb:(g==f)=false:=beq_eq_false_iff_ne.mpr h
   simp only[List.lookup,hb,if_neg h]
 | (k,x)::r=>by
  have ih:=Xob f g v r
  rw[show Xnu f v ((k,x)::r)=(if k=f then (k,v)::r else (k,x)::Xnu f v r) from rfl]
  by_cases hk:k=f
  .rw [if_pos hk]
   by_cases h:g=k
   .have hb:(g==k)=true:=beq_iff_eq.mpr h
    simp only[List.lookup,hb,if_pos (h.trans hk)]
   .have hb:(g==k)=false:=beq_eq_false_iff_ne.mpr h
    simp only[List.lookup,hb,if_neg (λe:g=f=>h (e.trans hk.symm))]
  .rw [if_neg hk]
   by_cases h:g=k
   .have hb:(g==k)=true:=beq_iff_eq.mpr h
    simp only[List.lookup,hb,if_neg (λe:g=f=>hk (h.symm.trans e))]
   .have hb:(g==k)=false:=beq_eq_false_iff_ne.mpr h
    simp only[List.lookup,hb]
    exact ih
theorem Xof (f:Str)(v:V):∀fs:List (Str×V),f∈(Xnu f v fs).map (·.1)/\∀g,g∈fs.map (·.1)->g∈(Xnu f v fs).map (·.1)
 | []=>⟨by simp[Xnu],λg h=>by simp at h⟩
 | (k,x)::r=>by
  obtain⟨i1,i2⟩:=Xof f v r
  rw[show Xnu f v ((k,x)::r)=(if k=f then (k,v)::r else (k,x)::Xnu f v r) from rfl]
  by_cases hk:k=f
  .rw [if_pos hk]
   subst hk
   exact⟨by simp,λg h=>by simpa using h⟩
  .rw [if_neg hk]
   refine⟨?_,λg h=>?_⟩
   .rw [map_cons]
    exact mem_cons_of_mem _ i1
   .rw [map_cons]at h ⊢
    rcases mem_cons.mp h with e |e
    .exact mem_cons.mpr (.inl e)
    .exact mem_cons_of_mem _ (i2 g e)
theorem Xoe (f:Str)(v:V):∀fs:List (Str×V),(Xnu f v fs).length<=fs.length+1
 | []=>by simp[Xnu]
 | (k,x)::r=>by
  have ih:=Xoe f v r
  rw[show Xnu f v ((k,x)::r)=(if k=f then (k,v)::r else (k,x)::Xnu f v r) from rfl]
  by_cases hk:k=f
  .rw [if_pos hk,length_cons,length_cons];omega
  .rw [if_neg hk,length_cons,length_cons];omega
theorem Ycf.some_of {v:V}{o:Option Value}(r:Ycf (some v) o):∃u,o=some u/\Xd3 v u:=by
 cases o with
 |none=>exact (show False from r).elim
 |some u=>exact⟨u,rfl,r⟩
theorem Ycf.none_of {o:Option Value}(r:Ycf none o):o=none:=by
 cases o with
 |none=>rfl
 |some u=>exact (show False from r).elim
theorem Ybi {v:V}{u:Value}(r:Xd3 v u):handedIn u=true:=by
 cases v with
 |non=>cases (show u=Value.none from r);rfl
 |bl b=>cases (show u=Value.bool b from r);rfl
 |int i=>obtain⟨t,e⟩:=(show ∃t,u=Value.int i t from r);cases e;rfl
 |str x=>obtain⟨t,e⟩:=(show ∃t,u=Value.str x t from r);cases e;rfl
 |byt b=>obtain⟨t,e⟩:=(show ∃t,u=Value.bytes b t from r);cases e;rfl
 |flt b=>obtain⟨t,e⟩:=(show ∃t,u=Value.float b t from r);cases e;rfl
 |ref a=>cases (show u=Value.ref a from r);rfl
 |ty n=>cases (show u=Value.type n from r);rfl
section
variable {P:Program}{w:World}{H H':Hp}{h h':Heap}{a C dx:Addr}{fs fs':List (Str×V)}
theorem Xq9 (hok:HOk P w H h)(e:H a=some (.ins C dx fs)):∃mA,ObjM h a dx C mA/\(∀f,Ycf (fs.lookup f) (mA f))/\PySem.Within mA (fs.map (·.1))/\fs.length<=1000/\H dx=some (.own a):=by
 obtain⟨d,z,ne,ob,mA,n,r,q⟩:=(show Xgt P w H h a (.ins C dx fs) from hok a _ e)
 exact⟨mA,⟨ob,n,ne⟩,r,q,z,d⟩
end
structure Cls (K:Frag) (C:Addr):Prop where
 pg:plainGet K C Str.empty=true
 hd:hasDictIn K C=true
 po:plainOver K C=true
 sa:findIn K (.ref C) "__setattr__"=some (some (.builtin "object.__setattr__"))
theorem Cls.get {K:Frag}{C:Addr}(c:Cls K C)(f:Str):plainGet K C f=true:=c.pg
def Xk5 (K:Frag)(C:Addr)(f:Str):Prop:=findIn K (.ref C) f=some none
theorem Xk5.taker {K:Frag}{C:Addr}{f:Str}(n:Xk5 K C f):takerIn K C f=some none:=by
 unfold takerIn
 rw[show findIn K (.ref C) f=some none from n]
 rfl
structure Meth (K:Frag) (C:Addr) (m:Str) (f:Addr):Prop where
 at_:findIn K (.ref C) m=some (some (.ref f))
 fn:isFn K (.ref f)=true
 kp:keepIn K (.ref f)=true
section
variable {X:Cx}{pins:List (Addr×Obj)}{Y:St}{H:Hp}{s:Shared}{a C dx:Addr}{fs:List (Str×V)}{f:Str}{v:V}{A:Around}{E:Value->Shared->Prop}
theorem Xp1 {b:Bool}{Q:Value->Shared->Prop}(I:Inv X pins Y H s)(e:H a=some (.ins C dx fs))(c:Cls X.K C)(n:Xk5 X.K C f)(l:fs.lookup f=some v)
  (h:∀u s',Inv X pins Y H s'->Xd3 v u->Q u s'):wpAny (model X.prog X.w) A (getAttr (.ref a) f b) Q E s:=by
 obtain⟨mA,O,r,_,_,_⟩:=Xq9 I.hok e
 obtain⟨u,hu,ru⟩:=Ycf.some_of (v:=v) (o:=mA f) (by rw[<- l];exact r f)
 exact Yip I.kIn O (c.get f) c.hd n hu (Ybi ru) (h u _ (I.tok _) ru)
theorem Xp0 {m:Str}{g:Addr}{pl:Sem Bool}{Q:Value×List Value->Shared->Prop}(I:Inv X pins Y H s)(e:H a=some (.ins C dx fs))(c:Cls X.K C)(k:Meth X.K C m g)(l:fs.lookup m=none)
  (h:Q (.ref g,[.ref a]) s):wpAny (model X.prog X.w) A (getMethod (.ref a) m pl) Q E s:=by
 obtain⟨mA,O,r,_,_,_⟩:=Xq9 I.hok e
 have hn:mA m=none:=Ycf.none_of (by rw[<- l];exact r m)
 exact Yef I.kIn O (c.get m) k.at_ k.fn hn h
theorem Xpk {y:V}{u:Value}{Q:Unit->Shared->Prop}(I:Inv X pins Y H s)(e:H a=some (.ins C dx fs))(c:Cls X.K C)(n:Xk5 X.K C f)(hl:fs.length<1000)(ry:Xd3 y u)
  (h:∀s',Inv X pins Y (upd H a (.ins C dx (Xnu f y fs))) s'->Q () s'):wpAny (model X.prog X.w) A (setAttr (.ref a) f u) Q E s:=by
 obtain⟨mA,O,r,wi,_,ho⟩:=Xq9 I.hok e
 have hz:(fs.map (·.1)).length<=sizeLine:=by rw[length_map,sizeLine_eq];omega
 refine Ygw I.kIn O c.sa c.po n.taker c.hd wi hz λh' O' sb=>h _ ?_
 have hd:∃o,h'.get? dx=some o:=let⟨o,_,_,e',_⟩:=O'.ns;⟨o,e'⟩
 refine I.write (x:=a) (e:=dx) (by rw[e];exact True.intro) (.inr ho) (λb q hb z=>(sb.2 b hb).trans z) hd ?_
 refine⟨by rw[Xcp O.ne];exact ho,?_,O.ne,O'.obj,_,O'.ns,λg=>?_,λg hg=>?_⟩
 .have:=Xoe f y fs;omega
 .show Ycf ((Xnu f y fs).lookup g) (if g=f then some u else mA g)
  rw[Xob]
  by_cases q:g=f
  .rw [if_pos q,if_pos q];exact ry
  .rw [if_neg q,if_neg q];exact r g
 .by_cases q:g=f
  .rw [q];exact (Xof f y fs).1
  .refine (Xof f y fs).2 g (wi g λz=>hg ?_)
   show (if g=f then some u else mA g)=none
   rw[if_neg q];exact z
theorem Inv.made (I:Inv X pins Y H s):Inv X pins Y (upd (upd H s.heap.objs.size (.own (s.heap.objs.size+1))) (s.heap.objs.size+1) (.ins C s.heap.objs.size []))
  {s with heap:=(s.heap.push emptyDict).push (instObj C s.heap.objs.size)}:=by
 have e1:(s.heap.push emptyDict).get? s.heap.objs.size=some emptyDict:=get?_push_size s.heap rfl
 have e2:((s.heap.push emptyDict).push (instObj C s.heap.objs.size)).get? (s.heap.objs.size+1)=some (instObj C s.heap.objs.size):=by
  have:=get?_push_size (s.heap.push emptyDict) (o:=instObj C s.heap.objs.size) rfl
  rwa[size_push]at this
 have e3:(s.heap.push emptyDict).Ns s.heap.objs.size (λ_=>none):=⟨emptyDict,#[],_,e1,rfl,(λe he=>absurd he (by simp)),λ_=>rfl⟩
 have I1:=I.laid (a:=s.heap.objs.size) (o:=.own (s.heap.objs.size+1)) (h':=s.heap.push emptyDict) (t':=s.toks) (λb u q=>get?_push_of_some _ q) (Nat.le_refl _) ⟨_,e1⟩
 refine I1.laid (a:=s.heap.objs.size+1) (o:=.ins C s.heap.objs.size []) (t':=s.toks) (λb u q=>get?_push_of_some _ q) (le_of_eq (size_push _ _)) ?_
 have ne:s.heap.objs.size≠s.heap.objs.size+1:=ne_of_lt (Nat.lt_succ_self _)
 refine⟨by rw[Xcp ne,Xa3],zero_le _,ne,e2,λ_=>none,(Heap.Ns1.of_empty e3).at λo q=>get?_push_of_some _ q,λ_=>True.intro,λy hy=>absurd rfl hy⟩
theorem Yi0 {prog:Program}{w:World}{env:Env}{e:Expr}{f:Str}{pos:Pos}{s:Shared}{Q:Value->Shared->Prop}(hb:attributeBase e f env (eval e env)=eval e env)
  (h:wpAny (model prog w) A (eval e env) (λo s₁=>wpAny (model prog w) A (getAttr o f true) Q E s₁) E s):wpAny (model prog w) A (eval (.Attribute e f pos) env) Q E s:=
 Attribute_any_ h (by rw[arm_eval_Attribute,hb])
end
def Ygo (K:Frag)(ta:TE)(f:Str):TE:=λY H Q=>ta Y H λx H1=>∃a C dx fs v,x = .ref a/\H1 a=some (.ins C dx fs)/\Cls K C/\Xk5 K C f/\fs.lookup f=some v/\Q v H1
def Ymw (K:Frag)(ta tv:TE)(f:Str):TS:=λD Y H=>tv Y H λy H1=>ta Y H1 λx H2=>∃a C dx fs,x = .ref a/\H2 a=some (.ins C dx fs)/\Cls K C/\Xk5 K C f/\fs.length<1000/\
 D.nx Y (upd H2 a (.ins C dx (Xnu f y fs)))
def Ynu (X:Cx)(op:Operator)(rd:V->V->Hp->VK->Prop):Prop:=
 ∀(pins:List (Addr×Obj)) (s:Shared) (Y:St) (H:Hp) (x y:V) (u v:Value) (Q:VK),Inv X pins Y H s->Xd3 x u->Xd3 y v->rd x y H Q->wpAny (model X.prog X.w) X.A (inplaceOp op u v) (EP X pins Y Q) X.xe s
def Xzz (K:Frag)(ta tv:TE)(rd:V->V->Hp->VK->Prop)(f:Str):TS:=λD Y H=>ta Y H λx H1=>∃a C dx fs v,x = .ref a/\H1 a=some (.ins C dx fs)/\Cls K C/\Xk5 K C f/\fs.lookup f=some v/\
 tv Y H1 λy H2=>rd v y H2 λz H3=>∃dx' fs',H3 a=some (.ins C dx' fs')/\fs'.length<1000/\D.nx Y (upd H3 a (.ins C dx' (Xnu f z fs')))
section
variable {X:Cx}{o e value:Expr}{f:Str}{pos pos' tpos:Pos}{ta tv:TE}
theorem Xb2 (he:PE X e ta)(hb:attributeBase e f X.env (eval e X.env)=eval e X.env):PE X (.Attribute e f pos) (Ygo X.K ta f):=by
 intro pins s Y H Q I h
 refine Yi0 hb (thn (he pins s Y H _ I h) λu s1 ⟨x,H1,I1,rx,a,C,dx,fs,v,ex,ea,c,n,l,q⟩=>?_)
 subst ex
 obtain rfl:u=Value.ref a:=rx
 exact Xp1 I1 ea c n l λu' s2 I2 ru=>⟨v,H1,I2,ru,q⟩
theorem Xih (ha:PE X o ta)(hv:PE X value tv)(hs:swapsWith value (some (.Attribute o f pos')) pos.line X.env=pure false):PS X (.Assign [.Attribute o f pos'] value pos) (Ymw X.K ta tv f):=by
 intro pins s Y H D I h
 refine plainObj_wpAny_Assign_Attribute (thn (hv pins s Y H _ I h) λu s1 ⟨y,H1,I1,ry,q⟩=>thn (ha pins s1 Y H1 _ I1 q) λov s2 ⟨x,H2,I2,rx,a,C,dx,fs,ex,ea,c,n,l,q2⟩=>?_) hs
 subst ex
 obtain rfl:ov=Value.ref a:=rx
 exact Xpk I2 ea c n l ry λs3 I3=>⟨Y,_,I3,q2⟩
theorem Xsn {op:Operator}{rd:V->V->Hp->VK->Prop}(ha:PE X o ta)(hv:PE X value tv)(hop:Ynu X op rd):PS X (.AugAssign (.Attribute o f tpos) op value pos) (Xzz X.K ta tv rd f):=by
 intro pins s Y H D I h
 refine wpAny_AugAssign_AttributeAny (thn (ha pins s Y H _ I h) λov s1 ⟨x,H1,I1,rx,a,C,dx,fs,v,ex,ea,c,n,l,q⟩=>?_)
 subst ex
 obtain rfl:ov=Value.ref a:=rx
 refine Xp1 I1 ea c n l λu s2 I2 ru=>thn (hv pins s2 Y H1 _ I2 q) λw3 s3 ⟨y,H2,I3,ry,q3⟩=>thn (hop pins s3 Y H2 v y u w3 _ I3 ru ry q3) λw4 s4 ⟨z,H3,I4,rz,dx',fs',ea',l',q4⟩=>?_
 exact Xpk I4 ea' c n l' rz λs5 I5=>⟨Y,_,I5,q4⟩
def Ypf:V->V->Hp->VK->Prop:=λx y H Q=>∃i j,x = .int i/\y = .int j/\Q (.int (i+j)) H
def Ypc:V->V->Hp->VK->Prop:=λx y H Q=>∃i j,x = .int i/\y = .int j/\Q (.int (i-j)) H
theorem Yla:Ynu X .Add Ypf:=by
 rintro pins s Y H x y u v Q I rx ry ⟨i,j,rfl,rfl,q⟩
 obtain⟨t,rfl⟩:=(show ∃t,u=Value.int i t from rx)
 obtain⟨t',rfl⟩:=(show ∃t',v=Value.int j t' from ry)
 exact PyProof.Rows.iadd_int ⟨.int (i+j),H,I.tok _,⟨_,rfl⟩,q⟩
theorem Yk9:Ynu X .Sub Ypc:=by
 rintro pins s Y H x y u v Q I rx ry ⟨i,j,rfl,rfl,q⟩
 obtain⟨t,rfl⟩:=(show ∃t,u=Value.int i t from rx)
 obtain⟨t',rfl⟩:=(show ∃t',v=Value.int j t' from ry)
 exact PyProof.Rows.isub_int ⟨.int (i-j),H,I.tok _,⟨_,rfl⟩,q⟩
end
section
variable {X:Cx}{pins:List (Addr×Obj)}{Y:St}{H:Hp}{s:Shared}{A:Around}{E:Value->Shared->Prop}{Q:Value->Shared->Prop}{c:Value}{b:Bool}
inductive TyOf (K:Frag) (H:Hp):V->Value->Prop where
 |non:TyOf K H .non (.type "NoneType")
 |bl (x:Bool):TyOf K H (.bl x) (.type "bool")
 |int (i:Int):TyOf K H (.int i) (.type "int")
 |str (x:Str):TyOf K H (.str x) (.type "str")
 |flt (x:UInt64):TyOf K H (.flt x) (.type "float")
 |lst {a:Addr} {xs:List V} (e:H a=some (.lst xs)):TyOf K H (.ref a) (.type "list")
 |frz {a:Addr} {o:Obj} {xs:List V} (e:H a=some (.frz o (.lst xs))):TyOf K H (.ref a) (.type "list")
 |tup {a:Addr} {xs:List V} (e:H a=some (.tup xs)):TyOf K H (.ref a) (.type "tuple")
 |dK {a:Addr} {kvs:List (Key×V)} (e:H a=some (.dK kvs)):TyOf K H (.ref a) (.type "dict")
 |dT {a:Addr} {kvs:List (List Key×V)} (e:H a=some (.dT kvs)):TyOf K H (.ref a) (.type "dict")
 |ins {a C dx:Addr} {fs:List (Str×V)} (e:H a=some (.ins C dx fs)) (cl:Cls K C) (ha:findIn K (.ref C) "__class__"=some (some (.builtin "object.__class__")))
   (hn:PySem.W.specialIn K (.builtin "object.__class__") "__get__"=some (some (.builtin "getset_descriptor.__get__"))) (htk:PySem.W.takesIn K (.builtin "object.__class__")=some true)
   (hm:PySem.W.mroIn K C (.type "object")=some true):TyOf K H (.ref a) (.ref C)
theorem Xkw {x:V}{u t:Value}(I:Inv X pins Y H s)(rx:Xd3 x u)(ty:TyOf X.K H x t)(e:kitOne X.K t c=some b)(h:∀tk,Q (.bool b) {s with toks:=tk}):
  wpAny (model X.prog X.w) A (call (.builtin "isinstance") [u,c]) Q E s:=by
 cases ty with
 |non=>cases (show u=Value.none from rx);exact kia_one PySem.W.kitx_none I.kIn True.intro e (λz=>nomatch z) h
 |bl y=>cases (show u=Value.bool y from rx);exact kia_one PySem.W.kitx_bool I.kIn True.intro e (λz=>nomatch z) h
 |int i=>obtain⟨t,q⟩:=(show ∃t,u=Value.int i t from rx);cases q;exact kia_one PySem.W.kitx_int I.kIn True.intro e (λz=>nomatch z) h
 |str y=>obtain⟨t,q⟩:=(show ∃t,u=Value.str y t from rx);cases q;exact kia_one PySem.W.kitx_str I.kIn True.intro e (λz=>nomatch z) h
 |flt y=>obtain⟨t,q⟩:=(show ∃t,u=Value.float y t from rx);cases q;exact kia_one PySem.W.kitx_float I.kIn True.intro e (λz=>nomatch z) h
 | @lst a xs ea=>
  cases (show u=Value.ref a from rx)
  obtain⟨_,_,n,_,h1⟩:=(show Xgt X.prog X.w H s.heap a (.lst xs) from I.hok a _ ea)
  exact kia_one kitx_list I.kIn ⟨_,h1,rfl⟩ e (λz=>nomatch z) h
 | @frz a ob xs ea=>
  cases (show u=Value.ref a from rx)
  obtain⟨_,_,_,n,_,h1⟩:=(show Xgt X.prog X.w H s.heap a (.frz ob (.lst xs)) from I.hok a _ ea)
  exact kia_one kitx_list I.kIn ⟨_,h1,rfl⟩ e (λz=>nomatch z) h
 | @tup a xs ea=>
  cases (show u=Value.ref a from rx)
  obtain⟨_,_,_,p⟩:=(show Xgt X.prog X.w H s.heap a (.tup xs) from I.hok a _ ea)
  obtain⟨o,h1,h2,_⟩:=p
  exact kia_one kitx_tuple I.kIn ⟨o,h1,h2⟩ e (λz=>nomatch z) h
 | @dK a kvs ea=>
  cases (show u=Value.ref a from rx)
  obtain⟨_,_,vs,_,p⟩:=(show Xgt X.prog X.w H s.heap a (.dK kvs) from I.hok a _ ea)
  obtain⟨o,es,ep,h1,h2,_⟩:=p
  exact kia_one kitx_dict I.kIn ⟨o,h1,h2.1⟩ e (λz=>nomatch z) h
 | @dT a kvs ea=>
  cases (show u=Value.ref a from rx)
  obtain⟨_,_,xs,_,o,es,ep,h1,h2,_⟩:=(show Xgt X.prog X.w H s.heap a (.dT kvs) from I.hok a _ ea)
  exact kia_one kitx_dict I.kIn ⟨o,h1,h2.1⟩ e (λz=>nomatch z) h
 | @ins a C dx fs ea cl ha hn htk hm=>
  cases (show u=Value.ref a from rx)
  obtain⟨mA,O,_⟩:=Xq9 I.hok ea
  obtain⟨od,J,_⟩:=O.look
  exact kia_one (PySem.W.kitx_own (cl.get _) cl.hd ha hn htk hm) I.kIn J e (λz=>nomatch z) h
end
structure Room (k:Nat) (A:Around):Prop where
 hd:A.handled=none
 dp:A.depth+3*k+5<recursionLimit
 un:A.units+16*k+200<cLine
theorem Room.mono {j k:Nat}{A:Around}(r:Room k A)(h:j<=k):Room j A:=⟨r.hd,by have:=r.dp;omega,by have:=r.un;omega⟩
theorem Room.deeper {k:Nat}{A:Around}(r:Room (k+1) A)(env:Env):Room k (A.deeper env):=
 ⟨r.hd,by have:=r.dp;show A.depth+1+3*k+5<_;omega,by have:=r.un;show A.units+3+16*k+200<_;omega⟩
theorem Xx5 {A:Around}{C:Addr}{us:List Value}{kw:List (Str×Value)}:(A.under (.builtin "type.__call__" ⟨.ref C::us,kw⟩)).depth=A.depth+1:=by
 first |rfl |simp[Around.under,Code.weight,Code.isCreation,Code.isGuard,Code.isCaller,Code.frames,Code.isFrame,guardIds]
theorem Xx4 {A:Around}{C:Addr}{us:List Value}{kw:List (Str×Value)}:(A.under (.builtin "type.__call__" ⟨.ref C::us,kw⟩)).units=A.units+1:=by
 first |rfl |simp[Around.under,Code.cUnits,Code.frames,Code.isFrame]
theorem Room.make {k:Nat}{A:Around}(r:Room (k+1) A)(C:Addr)(us:List Value)(kw:List (Str×Value)):Room k (A.under (.builtin "type.__call__" ⟨.ref C::us,kw⟩)):=
 ⟨r.hd,by have:=r.dp;rw[Xx5];omega,by have:=r.un;rw[Xx4];omega⟩
theorem Room.depth {k:Nat}{A:Around}(r:Room k A):A.depth<recursionLimit:=by have:=r.dp;omega
theorem Room.units {k:Nat}{A:Around}(r:Room k A):A.units+64<cLine:=by have:=r.un;omega
def Xvq:TA:=λ_ H Q=>Q [] H
def Xla (ta:TE)(tr:TA):TA:=λY H Q=>ta Y H λx H1=>tr Y H1 λxs H2=>Q (x::xs) H2
section
variable {X:Cx}{e:Expr}{es:List Expr}{te:TE}{t:TA}{pos:Pos}
theorem Xad:PA X [] Xvq:=λ_ _ _ _ H Q I h=>Calls.spliced_nil ⟨[],H,I,.nil,h⟩
theorem Xaa (ha:PE X e te)(hr:PA X es t)(hs:starEach (e::es) X.env=(false,eval e X.env)::starEach es X.env:=by rfl):PA X (e::es) (Xla te t):=by
 intro pos pins s Y H Q I h
 rw[hs]
 show wpAny _ _ (spliced ((false,eval e X.env)::backTo pos (starEach es X.env))) _ _ s
 refine Calls.spliced_cons (thn (ha pins s Y H _ I h) λu s1 ⟨x,H1,I1,r1,q1⟩=>?_)
 exact thn (hr pos pins s1 Y H1 _ I1 q1) λus s2 ⟨xs,H2,I2,r2,q2⟩=>⟨x::xs,H2,I2,.cons r1 r2,q2⟩
end
abbrev Sp:=List V->Hp->VK->XK->Prop
abbrev CXT:=List Env->Hp->Shared->XK->Value->Shared->Prop
structure Env0 (P:Program) (w:World) (K:Frag) (mg:Str->Option Value) (base:Heap) (A:Around) (outer:List Env) (s:Shared) (H:Hp):Prop where
 frames:A.frames=some outer
 mod:Mod K mg base
 bs:∀b o,base.get? b=some o->s.heap.get? b=some o/\H b=none
 bsz:base.objs.size<=s.heap.objs.size
 funs:s.heap.FunFrames base outer
 frf:∀b∈frs outer,H b=none
 hok:HOk P w H s.heap
 bare:AllBare s.gens
def CE (outer:List Env)(P:Program)(w:World)(H:Hp)(s:Shared)(Q:VK)(u:Value)(s':Shared):Prop:=
 ∃v H',s'.os=s.os/\AllBare s'.gens/\Un (frs outer) [] H H' s.heap s'.heap/\HOk P w H' s'.heap/\Xd3 v u/\Q v H'
def CR (CX:CXT)(outer:List Env)(P:Program)(w:World)(H:Hp)(s:Shared)(Q:VK)(E:XK)(r:Result)(s':Shared):Prop:=
 match r with
 | .ok (.ret u)=>CE outer P w H s Q u s'
 | .ok _=>False
 | .error e=>CX outer H s E e s'
structure FnOk (P:Program) (w:World) (K:Frag) (mg:Str->Option Value) (base:Heap) (CX:CXT) (k:Nat) (f:Addr) (fd:FuncData) (ps:List Str) (sp:Sp):Prop where
 len:∀vs H Q E,sp vs H Q E->vs.length=ps.length
 run:∀(A:Around) (outer:List Env) (s:Shared) (H:Hp) (args:Args) (us:List Value) (vs:List V) (Q:VK) (E:XK),Room k A->Env0 P w K mg base A outer s H->BindsTo s fd args (ps.zip us)->Xcd vs us->sp vs H Q E->
  codeAny (model P w) A (.call (.ref f) args) (CR CX outer P w H s Q E) s
theorem FnOk.mono {P:Program}{w:World}{K:Frag}{mg:Str->Option Value}{base:Heap}{CX:CXT}{j k:Nat}{f:Addr}{fd:FuncData}{ps:List Str}{sp:Sp}(F:FnOk P w K mg base CX j f fd ps sp)(h:j<=k):
  FnOk P w K mg base CX k f fd ps sp:=⟨F.len,λA outer s H args us vs Q E hr=>F.run A outer s H args us vs Q E (hr.mono h)⟩
theorem Env0.make {P:Program}{w:World}{K:Frag}{mg:Str->Option Value}{base:Heap}{A:Around}{outer:List Env}{s:Shared}{H:Hp}(e:Env0 P w K mg base A outer s H)(C:Addr)(us:List Value)(kw:List (Str×Value)):
  Env0 P w K mg base (A.under (.builtin "type.__call__" ⟨.ref C::us,kw⟩)) outer s H:=⟨by first |exact e.frames | (simpa[Around.under,Code.envs,Code.isFrame,pushEnvs] using e.frames),e.mod,e.bs,e.bsz,e.funs,e.frf,e.hok,e.bare⟩
section
variable {X:Cx}{pins:List (Addr×Obj)}{Y:St}{H:Hp}{s s':Shared}
theorem Inv.env0 (I:Inv X pins Y H s):Env0 X.prog X.w X.K X.mg X.base X.A X.stack s H:=
 ⟨I.ok.frames,I.ok.mod,I.bs,le_trans I.ok.bsz I.sz,I.stack,I.stkFree,I.hok,I.bare⟩
theorem Inv.after {Q:VK}{u:Value}(I:Inv X pins Y H s)(h:CE X.stack X.prog X.w H s Q u s'):EP X pins Y Q u s':=by
 obtain⟨v,H',os,bare,un,hok,r,q⟩:=h
 obtain⟨hh,g,d,t,os'⟩:=s'
 obtain rfl:os'=s.os:=os
 exact⟨v,H',I.call (h':=hh) (g':=g) (d':=d) (t':=t) (ch:=[]) un hok bare (λb z=>absurd z (by simp)),r,q⟩
end
def Xt2 (sp:Sp)(dvs:List V)(E:XK)(t:TA):TE:=λY H Q=>t Y H λvs H1=>sp (vs++dvs) H1 Q E
def Ygn (C:Addr)(m:Str)(sp:Sp)(dvs:List V)(E:XK)(ta:TE)(t:TA):TE:=λY H Q=>ta Y H λx H1=>∃a dx fs,x = .ref a/\H1 a=some (.ins C dx fs)/\fs.lookup m=none/\
 t Y H1 λvs H2=>sp (x::(vs++dvs)) H2 Q E
def Yjn (C:Addr)(sp:Sp)(dvs:List V)(E:XK)(t:TA):TE:=λY H Q=>t Y H λvs H1=>∀x dx,H1 x=none->H1 dx=none->dx≠x->
 sp (.ref x::(vs++dvs)) (upd (upd H1 dx (.own x)) x (.ins C dx [])) (λv H2=>v = .non/\Q (.ref x) H2) E
def Xk6 (K:Frag)(fd:FuncData)(ps:List Str)(ds:List Value):Prop:=
 ∀(s:Shared) (us:List Value),K.In s.heap->(us++ds).length=ps.length->BindsTo s fd ⟨us,[]⟩ (ps.zip (us++ds))
theorem Xk6.all {K:Frag}{fd:FuncData}{ps:List Str}(h:∀us:List Value,us.length=ps.length->bindArgs fd ⟨us,[]⟩=pure (ps.zip us)):Xk6 K fd ps []:=λs us _ hl=>by
 rw[append_nil]at hl ⊢
 exact .of_eq (h us hl)
def Xot (CX:CXT)(X:Cx)(E:XK):Prop:=∀(pins:List (Addr×Obj)) (Y:St) (H:Hp) (s:Shared) (e:Value) (s':Shared),Inv X pins Y H s->CX X.stack H s E e s'->X.xe e s'
section
variable {X:Cx}{CX:CXT}{k:Nat}{f C:Addr}{fd:FuncData}{ps:List Str}{sp:Sp}{dvs:List V}{ds:List Value}{E:XK}{x m:Str}{p pos apos:Pos}{e o:Expr}{es:List Expr}{ta:TE}{t:TA}
theorem Xv5 {pins:List (Addr×Obj)}{Y:St}{H:Hp}{s:Shared}{Q:VK}{us:List Value}{vs:List V}(F:FnOk X.prog X.w X.K X.mg X.base CX k f fd ps sp)(hr:Room k X.A)(hb:Xk6 X.K fd ps ds)(hd:Xcd dvs ds)(hx:Xot CX X E)
  (I:Inv X pins Y H s) (r:Xcd vs us) (h:sp (vs++dvs) H Q E):wpAny (model X.prog X.w) X.A (call (.ref f) us) (EP X pins Y Q) X.xe s:=by
 have r2:Xcd (vs++dvs) (us++ds):=r.append hd
 have hl:(us++ds).length=ps.length:=by rw[<- r2.length];exact F.len _ _ _ _ h
 refine wpAny_call (codeAny_mono (F.run X.A X.stack s H ⟨us,[]⟩ (us++ds) (vs++dvs) Q E hr I.env0 (hb s us I.kIn hl) r2 h) λr s' hq=>?_)
 cases r with
 |error e=>exact hx pins Y H s e s' I hq
 |ok fl=>
  cases fl with
  |ret u=>exact I.after hq
  |next=>exact False.elim hq
  |brk=>exact False.elim hq
  |cont=>exact False.elim hq
theorem Yak (F:FnOk X.prog X.w X.K X.mg X.base CX k f fd ps sp)(hr:Room k X.A)(hg:Gl X x)(hm:X.mg x=some (.ref f))(hk:keepIn X.K (.ref f)=true)(hb:Xk6 X.K fd ps ds)(hd:Xcd dvs ds)(hx:Xot CX X E)
  (ha:PA X (e::es) t) (hdb:(x==("__debug__":Str))=false:=by decide) (he:starEach (e::es) X.env=(false,eval e X.env)::starEach es X.env:=by rfl) (hpl:(backTo pos (starEach es X.env)).any (·.1)=false:=by rfl):
  PE X (.Call (.Name x p) (e::es) [] pos) (Xt2 sp dvs E t):=by
 intro pins s Y H Q I h
 refine wpAny_Call_Name_kw (Xuz I hg hm ?_ hdb)
 refine callWith_K (h₀:=X.base) I.ok.mod.kin hk (thn (ha pos pins s Y H _ I h) λus s1 ⟨vs,H1,I1,r,q⟩=>⟨I1.kIn,?_⟩) he hpl
 exact Xv5 F hr hb hd hx I1 r q
theorem Yho {pl:Sem Bool}(he:PE X o ta)(c:Cls X.K C)(hm:Meth X.K C m f)(F:FnOk X.prog X.w X.K X.mg X.base CX k f fd ps sp)(hr:Room k X.A)(hb:Xk6 X.K fd ps ds)(hd:Xcd dvs ds)(hx:Xot CX X E)(ha:PA X (e::es) t)
  (hst:starEach (e::es) X.env=(false,eval e X.env)::starEach es X.env:=by rfl) (hpl:(backTo pos (starEach es X.env)).any (·.1)=false:=by rfl)
  (ht:eval (.Call (.Attribute o m apos) (e::es) [] pos) X.env=(do
   let ov <- eval o X.env
   standAt apos.atName
   let (f,first) <- holding [ov] (getMethod ov m pl)
   callWith pos f first (backTo pos (starEach (e::es) X.env)) (backToKw pos (keywordEach [] X.env))):=by rfl):
  PE X (.Call (.Attribute o m apos) (e::es) [] pos) (Ygn C m sp dvs E ta t):=by
 intro pins s Y H Q I h
 refine PySem.W.methodCall_KW (pl:=pl) (thn (he pins s Y H _ I h) λu s1 ⟨x,H1,I1,rx,a,dx,fs,ex,ea,l,q⟩=>?_) ht
 subst ex
 obtain rfl:u=Value.ref a:=rx
 refine Xp0 I1 ea c hm l ?_
 refine callWith_K (first:=[.ref a]) (h₀:=X.base) I.ok.mod.kin hm.kp (thn (ha pos pins s1 Y H1 _ I1 q) λus s2 ⟨vs,H2,I2,r,q2⟩=>⟨I2.kIn,?_⟩) hst hpl
 exact Xv5 (us:=.ref a::us) (vs:=.ref a::vs) F hr hb hd hx I2 (.cons rfl r) q2
theorem Ydr {pl:Sem Bool}(he:PE X o ta)(c:Cls X.K C)(hm:Meth X.K C m f)(F:FnOk X.prog X.w X.K X.mg X.base CX k f fd ps sp)(hr:Room k X.A)(hb:Xk6 X.K fd ps ds)(hd:Xcd dvs ds)(hx:Xot CX X E)
  (ht:eval (.Call (.Attribute o m apos) [] [] pos) X.env=(do
   let ov <- eval o X.env
   standAt apos.atName
   let (f,first) <- holding [ov] (getMethod ov m pl)
   callWith pos f first (backTo pos (starEach [] X.env)) (backToKw pos (keywordEach [] X.env))):=by rfl):
  PE X (.Call (.Attribute o m apos) [] [] pos) (Ygn C m sp dvs E ta Xvq):=by
 intro pins s Y H Q I h
 refine PySem.W.methodCall_KW (pl:=pl) (thn (he pins s Y H _ I h) λu s1 ⟨x,H1,I1,rx,a,dx,fs,ex,ea,l,q⟩=>?_) ht
 subst ex
 obtain rfl:u=Value.ref a:=rx
 refine Xp0 I1 ea c hm l ?_
 exact PySem.W.callWith_K0 (first:=[.ref a]) I1.kIn hm.kp (Xv5 (us:=[.ref a]) (vs:=[.ref a]) F hr hb hd hx I1 (.cons rfl .nil) q)
structure Mk (K:Frag) (C f:Addr):Prop where
 makes:makesIn K C=true
 init:findIn K (.ref C) "__init__"=some (some (.ref f))
 fn:isFn K (.ref f)=true
 kp:keepIn K (.ref C)=true
theorem Ydf {pins:List (Addr×Obj)}{Y:St}{H:Hp}{s:Shared}{Q:VK}{us:List Value}{vs:List V}(δ:Mk X.K C f)(F:FnOk X.prog X.w X.K X.mg X.base CX k f fd ps sp)(hr:Room (k+1) X.A)(hb:Xk6 X.K fd ps ds)(hd:Xcd dvs ds)
  (hx:Xot CX X E) (I:Inv X pins Y H s) (r:Xcd vs us)
  (h:∀x dx,H x=none->H dx=none->dx≠x->sp (.ref x::(vs++dvs)) (upd (upd H dx (.own x)) x (.ins C dx [])) (λv H2=>v = .non/\Q (.ref x) H2) E):
  wpAny (model X.prog X.w) X.A (call (.ref C) us) (EP X pins Y Q) X.xe s:=by
 have hq:=h (s.heap.objs.size+1) s.heap.objs.size (I.hok.fresh (le_succ _)) (I.hok.fresh (Nat.le_refl _)) (ne_of_lt (Nat.lt_succ_self _))
 have I2:=Inv.made (C:=C) I
 have r2:Xcd (V.ref (s.heap.objs.size+1)::(vs++dvs)) (Value.ref (s.heap.objs.size+1)::(us++ds)):=.cons rfl (r.append hd)
 have hl:(Value.ref (s.heap.objs.size+1)::us++ds).length=ps.length:=by
  have e:=r2.length
  rw[F.len _ _ _ _ hq]at e
  exact e.symm
 refine wpAny_call (Yd6 (f:=f) I.kIn δ.makes δ.init (beq_iff_eq.mp δ.fn) (codeAny_mono (F.run _ X.stack _ _ ⟨Value.ref (s.heap.objs.size+1)::us,[]⟩ (Value.ref (s.heap.objs.size+1)::(us++ds)) _ _ E (hr.make C us [])
  (I2.env0.make C us []) (hb _ (Value.ref (s.heap.objs.size+1)::us) I2.kIn hl) r2 hq) λr s' hq'=>?_))
 cases r with
 |error e=>exact hx pins Y _ _ e s' I2 hq'
 |ok fl=>
  cases fl with
  |ret u=>
   obtain⟨v,H',I3,rv,ev,q3⟩:=I2.after hq'
   subst ev
   exact⟨rv,⟨V.ref (s.heap.objs.size+1),H',I3,rfl,q3⟩⟩
  |next=>exact False.elim hq'
  |brk=>exact False.elim hq'
  |cont=>exact False.elim hq'
theorem Yhp (δ:Mk X.K C f)(F:FnOk X.prog X.w X.K X.mg X.base CX k f fd ps sp)(hr:Room (k+1) X.A)(hg:Gl X x)(hm:X.mg x=some (.ref C))(hb:Xk6 X.K fd ps ds)(hd:Xcd dvs ds)(hx:Xot CX X E)
  (ha:PA X (e::es) t) (hdb:(x==("__debug__":Str))=false:=by decide) (he:starEach (e::es) X.env=(false,eval e X.env)::starEach es X.env:=by rfl) (hpl:(backTo pos (starEach es X.env)).any (·.1)=false:=by rfl):
  PE X (.Call (.Name x p) (e::es) [] pos) (Yjn C sp dvs E t):=by
 intro pins s Y H Q I h
 refine wpAny_Call_Name_kw (Xuz I hg hm ?_ hdb)
 refine callWith_K (h₀:=X.base) I.ok.mod.kin δ.kp (thn (ha pos pins s Y H _ I h) λus s1 ⟨vs,H1,I1,r,q⟩=>⟨I1.kIn,?_⟩) he hpl
 exact Ydf δ F hr hb hd hx I1 r q
end
section
variable {X:Cx}{CX:CXT}{k:Nat}{f C:Addr}{fd:FuncData}{ps ks:List Str}{sp:Sp}{E:XK}{x m:Str}{p pos apos kpos:Pos}{e o:Expr}{es:List Expr}{kws:List Keyword}{te ta:TE}{t tk:TA}{nm:Option Str}
variable {g:List Value->List Value->List Value}{gV:List V->List V->List V}
end
structure FnScope (N P:List Str) (sc:Scope):Prop where
 kind:sc.kind = .function
 co:sc.isCoroutine=false
 gen:sc.isGenerator=false
 nd:N.Nodup
 pre:N.take P.length=P
 par:∀x∈P,sc.names.lookup x=some .local∨sc.names.lookup x=some .cell
 nofree:∀y∈sc.names,y.2≠.free
theorem Xtu {kindOf:Str->Option NameKind}{x:Str}:∀{binds:List (Str×Value)} {m:Str->Option Value},(∀v,(x,v)∉binds)->bindL kindOf binds m x=m x
 | [],_,_=>rfl
 | (n,v)::r,m,h=>by
  unfold bindL
  rw[Xtu λw hw=>h w (mem_cons_of_mem _ hw)]
  split
  .have:x≠n:=by rintro rfl;exact h v mem_cons_self
   simp[this]
  .rfl
theorem Xtw {kindOf:Str->Option NameKind}{x:Str}:∀{binds:List (Str×Value)} {m:Str->Option Value},(∀v,(x,v)∉binds)->bindC kindOf binds m x=m x
 | [],_,_=>rfl
 | (n,v)::r,m,h=>by
  unfold bindC
  rw[Xtw λw hw=>h w (mem_cons_of_mem _ hw)]
  split
  .rfl
  .have:x≠n:=by rintro rfl;exact h v mem_cons_self
   simp[this]
theorem Xtv {kindOf:Str->Option NameKind}{x:Str}{v:Value}:∀{P:List Str} {vs:List Value} {i:Nat} {m:Str->Option Value},P.Nodup->P[i]?=some x->vs[i]?=some v->kindOf x=some .local->
  bindL kindOf (P.zip vs) m x=some v
 | [],_,_,_,_,h,_,_=>by simp at h
 |_::_,[],_,_,_,_,h,_=>by simp at h
 |p::P,w::vs,0,m,nd,h1,h2,hk=>by
  simp at h1 h2;subst h1;subst h2
  show bindL kindOf ((p,w)::P.zip vs) m p=_
  unfold bindL
  rw[Xtu λv hv=>(nodup_cons.mp nd).1 (of_mem_zip hv).1,if_pos hk]
  simp
 |p::P,w::vs,i+1,m,nd,h1,h2,hk=>by
  show bindL kindOf ((p,w)::P.zip vs) m x=_
  unfold bindL
  exact Xtv (i:=i) (nodup_cons.mp nd).2 (by simpa using h1) (by simpa using h2) hk
theorem Xtx {kindOf:Str->Option NameKind}{x:Str}{v:Value}:∀{P:List Str} {vs:List Value} {i:Nat} {m:Str->Option Value},P.Nodup->P[i]?=some x->vs[i]?=some v->kindOf x≠some .local->
  bindC kindOf (P.zip vs) m x=some v
 | [],_,_,_,_,h,_,_=>by simp at h
 |_::_,[],_,_,_,_,h,_=>by simp at h
 |p::P,w::vs,0,m,nd,h1,h2,hk=>by
  simp at h1 h2;subst h1;subst h2
  show bindC kindOf ((p,w)::P.zip vs) m p=_
  unfold bindC
  rw[Xtw λv hv=>(nodup_cons.mp nd).1 (of_mem_zip hv).1,if_neg hk]
  simp
 |p::P,w::vs,i+1,m,nd,h1,h2,hk=>by
  show bindC kindOf ((p,w)::P.zip vs) m x=_
  unfold bindC
  exact Xtx (i:=i) (nodup_cons.mp nd).2 (by simpa using h1) (by simpa using h2) hk
def Xe0 (N:List Str)(vs:List V):St:=vs.map some++List.replicate (N.length-vs.length) none
def Xvd (CX:CXT)(P:Program)(w:World)(K:Frag)(mg:Str->Option Value)(base:Heap)(N:List Str)(qual:Str)(scope:Scope)(f:Addr)(cd:Value)(A:Around)(outer:List Env)(s:Shared)(H:Hp)(E:XK):Cx where
 prog:=P
 w:=w
 K:=K
 mg:=mg
 base:=base
 A:=A.deeper (envOfC qual scope s.heap.objs.size f cd)
 N:=N
 s₀:=s
 H₀:=H
 env:=envOfC qual scope s.heap.objs.size f cd
 outer:=outer
 stack:=envOfC qual scope s.heap.objs.size f cd::outer
 ex:=[]
 calm:=true
 fn:=λ_=>true
 pn:=[]
 xe:=λe s'=>wpAny (model P w) (A.deeper (envOfC qual scope s.heap.objs.size f cd)) (leaving (envOfC qual scope s.heap.objs.size f cd) e) (λ_ s''=>CX outer H s E e s'') (λe' s''=>CX outer H s E e' s'') s'
theorem Xw2 {sc:Scope}{n:Nat}{x:Str}(h:sc.names.lookup x=some .cell):∃c,(cellsFrom n sc.names []).lookup x=some c:=by
 have q:=PySem.W.cellsFrom_some sc.names n [] (.inl h)
 exact Option.isSome_iff_exists.mp q
theorem Ybf {CX:CXT}{P:Program}{w:World}{K:Frag}{mg:Str->Option Value}{base:Heap}{N ps:List Str}{qual:Str}{scope:Scope}{f:Addr}{cd:Value}{A:Around}{outer:List Env}{s s1:Shared}{H:Hp}{E:XK}{us:List Value}{vs:List V}
  (S:FnScope N ps scope) (hd:A.handled=none) (e0:Env0 P w K mg base A outer s H) (hl:vs.length=ps.length) (r:Xcd vs us)
  (x:InCallC s s.heap.objs.size (bindL (envOfC qual scope s.heap.objs.size f cd).kindOf (ps.zip us) λ_=>none) (cellsFrom (s.heap.objs.size+1) scope.names []) (bindC (envOfC qual scope s.heap.objs.size f cd).kindOf (ps.zip us) λ_=>none) s1):
  Inv (Xvd CX P w K mg base N qual scope f cd A outer s H E) [] (Xe0 N vs) H s1:=by
 have hpl:ps.length<=N.length:=by have:=congrArg List.length S.pre;rw[length_take]at this;omega
 obtain⟨h1,tk,rfl,hk⟩:=x.done
 have noA:∀b:Addr,b∉(Xvd CX P w K mg base N qual scope f cd A outer s H E).ex:=λb z=>absurd (show b∈([]:List Addr) from z) (by simp)
 refine⟨⟨e0.mod,S.kind,rfl,rfl,Nat.le_refl _,λy z c h1 h2=>?_,λy hy=>?_,λy c _ h=>?_,λ_=>hd,Around.frames_deeper e0.frames,.inr ⟨rfl,rfl⟩,λb z=>absurd z (noA b),e0.bs,e0.bsz,λb _ _=>noA b,λb z=>absurd z (noA b),e0.funs,e0.frf⟩,
  rfl,e0.bare,Un.kept hk,⟨_,x.toInCall.ns,λi y v h1 h2 h3=>?_⟩,λy c h=>⟨_,x.cell y c h⟩,e0.hok.fresh (Nat.le_refl _),λy c h=>?_,λp hp=>absurd (show p∈([]:List (Addr×Obj)) from hp) (by simp),e0.hok.kept hk,?_⟩
 .exact name_of_addr x.apart (PySem.mem_of_lookup h1) (PySem.mem_of_lookup h2)
 .have hy:scope.names.lookup y=some .cell∨scope.names.lookup y=some .free:=hy
  rcases hy with hy |hy
  .exact Xw2 hy
  .exact absurd rfl (S.nofree _ (PySem.mem_of_lookup hy))
 .exact Nat.le_of_lt (x.above y c (PySem.mem_of_lookup h))
 .have hi:i<vs.length:=by
   unfold Xe0 at h2
   by_cases hi:i<vs.length
   .exact hi
   .rw [getElem?_append_right (by simpa using hi)]at h2
    rw[List.getElem?_replicate]at h2
    split at h2<;>cases h2
  have ha:vs[i]?=some v:=by
   unfold Xe0 at h2
   rw[getElem?_append_left (by simpa using hi),getElem?_map]at h2
   cases e:vs[i]? with
   |none=>rw[e]at h2;cases h2
   |some a=>rw[e]at h2;cases h2;rfl
  obtain⟨u,hu,rv⟩:=r.get ha
  have hp:ps[i]?=some y:=by
   rw[<- S.pre,List.getElem?_take_of_lt (by omega)];exact h1
  have ndP:ps.Nodup:=by rw[<- S.pre];exact S.nd.sublist (List.take_sublist _ _)
  refine⟨u,rv,?_⟩
  rcases S.par y (mem_of_getElem? hp) with k |k
  .exact .inl ⟨k,Xtv ndP hp hu k⟩
  .obtain ⟨c,e⟩:=Xw2 (n:=s.heap.objs.size+1) k
   refine .inr ⟨.inl k,c,e,?_⟩
   have q:=x.cell y c e
   rw[Xtx ndP hp hu (by show scope.names.lookup y≠_;rw[k];decide)]at q
   exact q
 .exact e0.hok.fresh (Nat.le_of_lt (x.above y c (PySem.mem_of_lookup h)))
 .unfold Xe0
  show _=N.length
  rw[length_append,length_map,length_replicate]
  omega
theorem Yll {CX:CXT}{P:Program}{w:World}{K:Frag}{mg:Str->Option Value}{base:Heap}{k:Nat}{f:Addr}{name qual:Str}{params:Arguments}{body:List Stmt}{scope:Scope}{dV kV doc pm cdv ct oc:Value}{an od:Option Addr}
  {osl:Array (Option Value)} {N ps:List Str} {sp:Sp} (lk:K.lookup f=some ⟨oc,od,.func (fnOf name qual params body scope dV kV doc pm an cdv ct),osl⟩) (hcd:codeIn K cdv qual=true) (S:FnScope N ps scope)
  (len:∀vs H Q E,sp vs H Q E->vs.length=ps.length)
  (hbody:∀(A:Around) (outer:List Env) (s:Shared) (H:Hp) (vs:List V) (Q:VK) (E:XK),Room k (A.deeper (envOfC qual scope s.heap.objs.size f cdv))->sp vs H Q E->
   ∃t,PSs (Xvd CX P w K mg base N qual scope f cdv A outer s H E) body t/\t {nx:=λ_ H'=>Q .non H',rt:=Q} (Xe0 N vs) H):
  FnOk P w K mg base CX (k+1) f (fnOf name qual params body scope dV kV doc pm an cdv ct) ps sp:=by
 refine⟨len,λA outer s H args us vs Q E hr e0 hb r hsp=>?_⟩
 have hl:=len _ _ _ _ hsp
 have KX:K.In s.heap:=e0.mod.kin.keeps λb o e=>(e0.bs b o e).1
 have lim:s.heap.NoLimit:=e0.mod.nolimit.keeps λb o e=>(e0.bs b o e).1
 have hkind:∀y∈ps.zip us,scope.names.lookup y.1=some .local∨(scope.names.lookup y.1=some .cell/\((cellsFrom (s.heap.objs.size+1) scope.names []).lookup y.1).isSome=true):=λ⟨n,v⟩ hy=>by
  rcases S.par n (of_mem_zip hy).1 with q |q
  .exact .inl q
  .exact .inr ⟨q,PySem.W.cellsFrom_some _ _ _ (.inl q)⟩
 refine codeAny_call_function hr.depth (KX _ _ lk) rfl S.co S.gen rfl (PySem.W.codeRec_of KX hcd) (hb _ _ _ _ ?_)
 refine wpAny_newFunctionEnv_cells S.kind hkind λenv he s1 x=>?_
 subst he
 refine⟨lim.keeps x.toInCall.keep,codeAny_func ?_⟩
 obtain⟨t,ht,hq⟩:=hbody A outer s H vs Q E (hr.deeper _) hsp
 have I:Inv (Xvd CX P w K mg base N qual scope f cdv A outer s H E) [] (Xe0 N vs) H s1:=Ybf S hr.hd e0 hl r x
 refine wpAny_mono (ht [] s1 (Xe0 N vs) H _ I hq) (λfl s' hs=>?_) λe s' hs=>hs
 have fin:∀{Y':St} {H':Hp} {v:V} {u:Value},Inv (Xvd CX P w K mg base N qual scope f cdv A outer s H E) [] Y' H' s'->Xd3 v u->Q v H'->CE outer P w H s Q u s':=
  λ{Y' H' v u} J rv q=>⟨v,H',J.os,J.bare,J.base,J.hok,rv,q⟩
 cases fl with
 |ret u=>
  obtain⟨v,Y',H',J,rv,q⟩:=hs
  exact fin J rv q
 |next=>
  obtain⟨Y',H',J,q⟩:=hs
  exact fin (v:=V.non) (u:=Value.none) J rfl q
 |brk=>
  obtain⟨_,_,_,q⟩:=hs
  exact False.elim q
 |cont=>
  obtain⟨_,_,_,q⟩:=hs
  exact False.elim q
section
variable {X:Cx}{x:Str}{p pos:Pos}{e:Expr}{es:List Expr}{t:TA}{id T:String}{r:List V->Hp->VK->Prop}
def tCB (r:List V->Hp->VK->Prop)(t:TA):TE:=λY H Q=>t Y H λvs H1=>r vs H1 Q
theorem Xay (hc:Xhq X (.builtin id) r)(hg:Gl X x)(hm:X.mg x=none)(hv:bootBuiltins x=some (.builtin id))(ha:PA X (e::es) t)(hn:x ≠ "__name__":=by decide)(hdb:(x==("__debug__":Str))=false:=by decide)
  (he:starEach (e::es) X.env=(false,eval e X.env)::starEach es X.env:=by rfl) (hpl:(backTo pos (starEach es X.env)).any (·.1)=false:=by rfl):PE X (.Call (.Name x p) (e::es) [] pos) (tCB r t):=by
 intro pins s Y H Q I h
 refine wpAny_Call_Name_kw (Xgn I hg hm hv ?_ hn hdb)
 exact PyProof.Rows.callWith_builtin1 (thn (ha pos pins s Y H _ I h) λus s1 ⟨vs,H1,I1,r1,q1⟩=>hc pins s1 Y H1 vs us Q I1 r1 q1) he hpl
theorem Xdz (hc:Xhq X (.type T) r)(hg:Gl X x)(hm:X.mg x=none)(hv:bootBuiltins x=some (.type T))(ha:PA X (e::es) t)(hn:x ≠ "__name__":=by decide)(hdb:(x==("__debug__":Str))=false:=by decide)
  (he:starEach (e::es) X.env=(false,eval e X.env)::starEach es X.env:=by rfl) (hpl:(backTo pos (starEach es X.env)).any (·.1)=false:=by rfl):PE X (.Call (.Name x p) (e::es) [] pos) (tCB r t):=by
 intro pins s Y H Q I h
 refine wpAny_Call_Name_kw (Xgn I hg hm hv ?_ hn hdb)
 exact PyProof.Rows.callWith_type1 (thn (ha pos pins s Y H _ I h) λus s1 ⟨vs,H1,I1,r1,q1⟩=>hc pins s1 Y H1 vs us Q I1 r1 q1) he hpl
end
end L2
namespace HT
open PySem PyProof.Rows
def lexLt:List Int->List Int->Bool
 | [],[]=>false
 | [],_::_=>true
 |_::_,[]=>false
 |x::xs,y::ys=>if x=y then lexLt xs ys else decide (x<y)
theorem lexLt_cons (x y:Int)(xs ys:List Int):lexLt (x::xs) (y::ys)=if x=y then lexLt xs ys else decide (x<y):=rfl
section
open PySem.SeqAt
open PySem.AutoSeq1 (wpAny_loadPart')
open PySem.MeetsSeq PySem.MeetsSeq2 PySem.MeetsSeq3
end
section
variable {prog:Program}{w:World}{A:Around}{E:Value->Shared->Prop}{s:Shared}
theorem cat_tup {t b:Addr}{vs ws:List Value}{Q:Value->Shared->Prop}(ht:IsTup s.heap t vs.toArray)(hb:IsTup s.heap b ws.toArray)(hv:vs≠[])
  (h1:ws=[]->Q (.ref t) s) (h2:ws≠[]->Q (.ref s.heap.objs.size) {s with heap:=s.heap.push {cls:=.type "tuple",data:=.seq (vs++ws).toArray}})
  (hsz:vs.length+ws.length<=sizeLine):wpAny (model prog w) A (binaryOp .Add (.ref t) (.ref b)) Q E s:=by
 obtain⟨⟨cls,dd,data,sl⟩,ho,hc,n,hd⟩:=id ht
 obtain⟨⟨cls2,dd2,data2,sl2⟩,ho2,hc2,n2,hd2⟩:=id hb
 simp only at hc hd hc2 hd2
 subst hc hd hc2 hd2
 have e:vs.toArray++ws.toArray=(vs++ws).toArray:=by simp
 by_cases hw:ws=[]
 .exact concat_meets ⟨_,ho,rfl⟩ ⟨_,ho2,rfl⟩ noFill_tuple_add seq_tuple_add PySem.F.slot_tuple_add PySem.F.entry_tuple_add (PySem.F.args_tuple_add_2 _ _)
   (tuple_addW1 t b vs.toArray ws.toArray n n2 dd dd2 sl sl2 (by simpa using hv) (by simp[hw])) ⟨ho,ho2,h1 hw⟩
 .refine concat_meets ⟨_,ho,rfl⟩ ⟨_,ho2,rfl⟩ noFill_tuple_add seq_tuple_add PySem.F.slot_tuple_add PySem.F.entry_tuple_add (PySem.F.args_tuple_add_2 _ _)
   (tuple_addW2 t b vs.toArray ws.toArray n n2 dd dd2 sl sl2 (by simpa using hv) (by simpa using hw) (by rw[size_toArray,size_toArray];exact hsz)) ⟨ho,ho2,?_⟩
  rw[e]
  exact h2 hw
def sIx (n d:Nat):Option Int->Nat
 |none=>d
 |some v=>if v<0 then (v+(n:Int)).toNat else min v.toNat n
theorem sIx_nat (n d k:Nat):sIx n d (some (k:Int))=min k n:=by
 show (if (k:Int)<0 then ((k:Int)+(n:Int)).toNat else min (k:Int).toNat n)=min k n
 rw[if_neg (by omega),toNat_natCast]
theorem Yjz (n d:Nat)(hd:d<=n)(o:Option Int):sIx n d o<=n:=by
 cases o with
 |none=>exact hd
 |some v=>
  show (if v<0 then (v+(n:Int)).toNat else min v.toNat n)<=n
  by_cases hv:v<0
  .rw [if_pos hv];omega
  .rw [if_neg hv];exact Nat.min_le_right _ _
theorem Yb2 (v:Int)(n d:Nat):(if v<0 then max (v+(n:Int)) 0 else min v (n:Int))=((sIx n d (some v):Nat):Int):=by
 show (if v<0 then max (v+(n:Int)) 0 else min v (n:Int))=(((if v<0 then (v+(n:Int)).toNat else min v.toNat n):Nat):Int)
 by_cases hv:v<0
 .simp only[if_pos hv];omega
 .simp only[if_neg hv];omega
theorem Xyi (lo hi:Option Int)(n:Nat):Builtin.Slice.sliceAdjust lo hi 1 (n:Int)=(((sIx n 0 lo:Nat):Int),((sIx n n hi:Nat):Int)):=by
 have h1:¬ ((1:Int)<0):=by omega
 unfold Builtin.Slice.sliceAdjust
 simp only[h1,if_false]
 refine Prod.ext ?_ ?_
 .cases lo with
  |none=>rfl
  |some v=>exact Yb2 v n 0
 .cases hi with
  |none=>rfl
  |some v=>exact Yb2 v n n
theorem Xxq (i j:Nat):Builtin.Slice.slicePlaces (i:Int) (j:Int) 1=j-i:=by
 unfold Builtin.Slice.slicePlaces
 have h1:(1:Int) > 0:=by omega
 simp only[h1,if_true,ediv_one]
 split<;>omega
theorem Xpi {v:Value}{o:Option Int}{Q:Option Int->Shared->Prop}(p:IsPart v o)(h:Q o s):wpAny (model prog w) A (Builtin.Slice.slicePartIndex v) Q E s:=by
 cases p with
 |none=>exact slicePart_none h
 |int i t=>exact slicePart_int h
theorem sliceApplied_gen {sl:Addr}{vl vu:Value}{lo hi:Option Int}{n:Nat}{Q:Int×Int×Nat->Shared->Prop}(hs:s.heap.IsSliceOf sl vl vu .none)(pl:IsPart vl lo)(pu:IsPart vu hi)
  (h:Q (((sIx n 0 lo:Nat):Int),1,sIx n n hi-sIx n 0 lo) s):wpAny (model prog w) A (Builtin.Slice.sliceApplied (.ref sl) (pure (n:Int))) Q E s:=by
 obtain⟨os,hos,hcs,hds⟩:=id hs
 unfold Builtin.Slice.sliceApplied Builtin.Slice.sliceFields
 refine wpAny_bind (wpAny_bind (wpAny_field hos hds (x:=vl) rfl (wpAny_bind (wpAny_field hos hds (x:=vu) rfl (wpAny_bind (wpAny_field hos hds (x:=.none) rfl (wpAny_pure ?_)))))))
 refine wpAny_bind (slicePart_none ?_)
 show wpAny _ _ (if ((1:Int)==0)=true then _ else _) _ _ s
 rw[if_neg (by decide)]
 refine wpAny_bind (Xpi pl (wpAny_bind (Xpi pu (wpAny_bind (wpAny_pure ?_)))))
 show wpAny _ _ (match Builtin.Slice.sliceAdjust lo hi 1 (n:Int) with | (lo,hi)=>pure (lo,(1:Int),Builtin.Slice.slicePlaces lo hi 1)) _ _ s
 rw[Xyi lo hi n]
 show wpAny _ _ (pure (((sIx n 0 lo:Nat):Int),(1:Int),Builtin.Slice.slicePlaces ((sIx n 0 lo:Nat):Int) ((sIx n n hi:Nat):Int) 1)) _ _ s
 rw[Xxq]
 exact wpAny_pure h
theorem Ydp (xs:Array Value)(i k:Nat):((List.range k).filterMap λ(m:Nat)=>xs[((i:Int)+(m:Int)*1).toNat]?).toArray=((xs.toList.drop i).take k).toArray:=by
 have e:(λ(m:Nat)=>xs[((i:Int)+(m:Int)*1).toNat]?)=λm=>xs[i+m]?:=by
  funext m
  have:((i:Int)+(m:Int)*1).toNat=i+m:=by omega
  rw[this]
 rw[e]
 have:=pick_run xs i k
 rw[List.filterMap_map]at this
 have e2:((λx=>xs[x]?)∘λx=>i+x)=λm=>xs[i+m]?:=rfl
 rw[e2]at this
 rw[this]
theorem getItem_tuple_cut {t sl:Addr}{items:Array Value}{vl vu:Value}{lo hi:Option Int}{Q:Value->Shared->Prop}(ht:IsTup s.heap t items)(hs:s.heap.IsSliceOf sl vl vu .none)(pl:IsPart vl lo)(pu:IsPart vu hi)
  (hw:¬ (sIx items.size 0 lo=0/\sIx items.size items.size hi=items.size))
  (h:Q (.ref s.heap.objs.size) {s with heap:=s.heap.push {cls:=.type "tuple",data:=.seq ((items.toList.drop (sIx items.size 0 lo)).take (sIx items.size items.size hi-sIx items.size 0 lo)).toArray}})
  (hsz:items.size<=sizeLine):wpAny (model prog w) A (getItem (.ref t) (.ref sl)) Q E s:=by
 have htake:sizeOk (.seq ((items.toList.drop (sIx items.size 0 lo)).take (sIx items.size items.size hi-sIx items.size 0 lo)).toArray):=by
  show ((items.toList.drop (sIx items.size 0 lo)).take (sIx items.size items.size hi-sIx items.size 0 lo)).toArray.size<=sizeLine
  rw[size_toArray,length_take,length_drop,length_toList]
  omega
 have hj:sIx items.size items.size hi<=items.size:=Yjz _ _ (Nat.le_refl _) hi
 obtain⟨os,hos,hcs,hds⟩:=id hs
 have hTs:s.TypeIs (.ref sl) "slice":=⟨os,hos,hcs⟩
 unfold getItem
 try with_reducible refine wpAny_holding ?_
 first |refine wpAny_bind (wpAny_pure ?_) |skip
 refine wpAny_bind (wpAny_sequenceKey ht.typeIs (by decide) ?_)
 refine wpAny_bind (wpAny_callSpecial?_slot (name:=Str.ofString "__getitem__") ht.typeIs PyProof.Rows.slot_tuple_getitem
  (wpAny_call_entry PyProof.Rows.slot_tuple_getitem ht.typeIs entry_tuple_getitem ?_ (args_tuple_getitem _ _)))
 show wpAny _ _ (Builtin.Tuple.tupleItemsOf (.ref t) >>= _) _ _ s
 refine wpAny_bind (tupleItemsOf_ ht ?_)
 refine wpAny_bind (wpAny_typeOf hTs ?_)
 rw[if_pos (by decide)]
 refine wpAny_bind (sliceApplied_gen hs pl pu ?_)
 have hno:¬ ((((sIx items.size 0 lo:Nat):Int)==0 && (1:Int)==1 && (sIx items.size items.size hi-sIx items.size 0 lo)==items.size)=true):=by
  intro q
  rw[and_eq_true,and_eq_true]at q
  have q1:((sIx items.size 0 lo:Nat):Int)=0:=eq_of_beq q.1.1
  have q2:sIx items.size items.size hi-sIx items.size 0 lo=items.size:=eq_of_beq q.2
  exact hw ⟨by omega,by omega⟩
 show wpAny _ _ (if (((sIx items.size 0 lo:Nat):Int)==0 && (1:Int)==1 && (sIx items.size items.size hi-sIx items.size 0 lo)==items.size)=true then _ else _) _ _ s
 rw[if_neg hno,Ydp]
 first
  |exact wpAny_bind (m:=Builtin.Tuple.tupleExact _) (wpAny_newObj_type (wpAny_pure ⟨_,rfl,wpAny_pure h⟩) htake)
  |exact wpAny_bind (m:=Builtin.Tuple.tupleExact _) (wpAny_newObj_type (wpAny_bind (wpAny_pure (wpAny_pure ⟨_,rfl,wpAny_pure h⟩))) htake)
  |exact wpAny_bind (wpAny_bind (m:=Builtin.Tuple.tupleExact _) (wpAny_newObj_type (wpAny_pure (wpAny_pure ⟨_,rfl,wpAny_pure h⟩)) htake))
  |exact wpAny_bind (wpAny_bind (m:=Builtin.Tuple.tupleExact _) (wpAny_newObj_type (wpAny_pure ⟨_,rfl,wpAny_pure h⟩) htake))
end
end HT
namespace L2
open PySem PySem.Spec PyProof.Rows
abbrev TO:=St->Hp->(Option Int->Hp->Prop)->Prop
def PO (X:Cx)(e:Option Expr)(t:TO):Prop:=
 ∀(pins:List (Addr×Obj)) (s:Shared) (Y:St) (H:Hp) (Q:Option Int->Hp->Prop),Inv X pins Y H s->t Y H Q->
  wpAny (model X.prog X.w) X.A (evalPart e X.env) (λu s'=>∃o H',Inv X pins Y H' s'/\IsPart u o/\Q o H') X.xe s
def Xyx:TO:=λ_ H Q=>Q none H
def Yjk (t:TE):TO:=λY H Q=>t Y H λx H1=>∃i,x = .int i/\Q (some i) H1
theorem Xyb {ns:List Int}:∀{us:List Value},Xcd (ns.map V.int) us->IntsAre us ns:=by
 induction ns with
 |nil=>intro us r;rw[map_nil]at r;cases r;exact .nil
 |cons n ns ih=>
  intro us r
  rw[map_cons]at r
  cases r with
  |cons r1 r2=>
   obtain⟨t,e⟩:=r1
   subst e
   exact .cons n t (ih r2)
section
variable {X:Cx}{e:Expr}{te:TE}{lo hi:Option Expr}{tl th:TO}{pos p2:Pos}
theorem Xll:PO X none Xyx:=by
 intro pins s Y H Q I h
 rw[evalPart_none]
 exact wpAny_pure ⟨none,H,I,.none,h⟩
theorem Xc7 (h:PE X e te):PO X (some e) (Yjk te):=by
 intro pins s Y H Q I hw
 rw[evalPart_some]
 refine thn (h pins s Y H _ I hw) λu s1 ⟨x,H1,I1,r1,q1⟩=>?_
 obtain⟨i,rfl,q⟩:=q1
 obtain⟨t,rfl⟩:=r1
 exact⟨some i,H1,I1,.int i t,q⟩
def SlR (X:Cx)(r:V->Option Int->Option Int->Hp->VK->Prop):Prop:=
 ∀(pins:List (Addr×Obj)) (s:Shared) (Y:St) (H:Hp) (x:V) (v vl vu:Value) (lo hi:Option Int) (sl:Addr) (Q:VK),Inv X pins Y H s->Xd3 x v->s.heap.IsSliceOf sl vl vu .none->IsPart vl lo->IsPart vu hi->r x lo hi H Q->
  ∃T id,typeLookup (.type T) "__getitem__"=pure (some (.builtin id))/\s.TypeIs v T/\wpAny (model X.prog X.w) X.A (getItem v (.ref sl)) (EP X pins Y Q) X.xe s
def tSl (r:V->Option Int->Option Int->Hp->VK->Prop)(te:TE)(tl th:TO):TE:=λY H Q=>te Y H λx H1=>tl Y H1 λl H2=>th Y H2 λu H3=>r x l u H3 Q
theorem Xdx {r:V->Option Int->Option Int->Hp->VK->Prop}(hr:SlR X r)(he:PE X e te)(hl:PO X lo tl)(hu:PO X hi th):PE X (.Subscript e (.Slice lo hi none p2) pos) (tSl r te tl th):=by
 intro pins s Y H Q I h
 refine Subscript_ (thn (he pins s Y H _ I h) λv s1 ⟨x,H1,I1,r1,q1⟩=>?_)
 refine wpAny_Slice (thn (hl pins s1 Y H1 _ I1 q1) λvl s2 ⟨l,H2,I2,pl,q2⟩=>thn (hu pins s2 Y H2 _ I2 q2) λvu s3 ⟨u,H3,I3,pu,q3⟩=>?_)
 rw[evalPart_none]
 refine wpAny_pure ?_
 have I4:Inv X pins Y H3 {s3 with heap:=s3.heap.push {cls:=.type "slice",data:=.fields #[vl,vu,.none]}}:=I3.kept (t':=s3.toks) λb ob q=>get?_push_of_some _ q
 obtain⟨T,id,hT,ht,hg⟩:=hr pins {s3 with heap:=s3.heap.push {cls:=.type "slice",data:=.fields #[vl,vu,.none]}} Y H3 x v vl vu l u s3.heap.objs.size Q I4 r1 (Heap.IsSliceOf.new ..) pl pu q3
 show wpAny (model X.prog X.w) X.A (subscriptTail e (.Slice lo hi none p2) v (.ref s3.heap.objs.size)) (EP X pins Y Q) X.xe {s3 with heap:=s3.heap.push {cls:=.type "slice",data:=.fields #[vl,vu,.none]}}
 exact tail_any (ops:=[.ref s3.heap.objs.size,v]) ht hT hg (by with_unfolding_all rfl)
def Yce (xs:List V)(lo hi:Option Int):List V:=(xs.drop (HT.sIx xs.length 0 lo)).take (HT.sIx xs.length xs.length hi-HT.sIx xs.length 0 lo)
theorem Xol (xs:List V)(lo hi:Option Int):(Yce xs lo hi).length<=xs.length:=by
 unfold Yce
 rw[length_take,length_drop]
 omega
def Ypd (K:Frag):V->Option Int->Option Int->Hp->VK->Prop:=λx lo hi H Q=>∃a xs,x = .ref a/\SqT K H a xs/\
 ¬ (HT.sIx xs.length 0 lo=0/\HT.sIx xs.length xs.length hi=xs.length)/\∀p,H p=none->Q (.ref p) (upd H p (.tup (Yce xs lo hi)))
theorem Yjr:SlR X (Ypd X.K):=by
 intro pins s Y H x v vl vu lo hi sl Q I rx hs pl pu h
 obtain⟨a,xs,rfl,hx,hw,q⟩:=h
 cases rx
 obtain⟨its,r,ht,hz⟩:=I.tuple hx
 have hlen:its.toArray.size=xs.length:=by rw[size_toArray];exact r.length.symm
 refine⟨"tuple",_,PyProof.Rows.slot_tuple_getitem.lookup,ht.typeIs,?_⟩
 refine HT.getItem_tuple_cut ht hs pl pu (by rw[hlen];exact hw) ?_ (by rw[hlen];exact hz)
 rw[hlen]
 refine⟨.ref s.heap.objs.size,_,I.laid (t':=s.toks) (o:=.tup (Yce xs lo hi)) (λb ob q=>get?_push_of_some _ q) (Nat.le_refl _) ?_,rfl,q _ (I.hok.fresh (Nat.le_refl _))⟩
 exact⟨le_trans (Xol xs lo hi) hz,_,(r.drop (HT.sIx xs.length 0 lo)).take (HT.sIx xs.length xs.length hi-HT.sIx xs.length 0 lo),IsTup.new _ _⟩
def Ym2 (K:Frag):R2:=λx y H Q=>∃a b xs ys,x = .ref a/\y = .ref b/\SqT K H a xs/\SqT K H b ys/\xs≠[]/\xs.length+ys.length<=sizeLine/\
 (ys=[]->Q (.ref a) H)/\(ys≠[]->∀p,H p=none->Q (.ref p) (upd H p (.tup (xs++ys))))
theorem Xcd.nil_iff {xs:List V}{us:List Value}(r:Xcd xs us):us=[]↔xs=[]:=by
 cases r with
 |nil=>simp
 |cons _ _=>simp
theorem Yhu:OpR X (binaryOp .Add) (Ym2 X.K):=by
 intro pins s Y H x y v u Q I rx ry h
 obtain⟨a,b,xs,ys,rfl,rfl,ha,hb,hx,hz,q1,q2⟩:=h
 cases rx
 cases ry
 obtain⟨its,r1,p1,_⟩:=I.tuple ha
 obtain⟨its2,r2,p2,_⟩:=I.tuple hb
 refine HT.cat_tup p1 p2 (λz=>hx (r1.nil_iff.mp z)) (λz=>⟨.ref a,H,I,rfl,q1 (r2.nil_iff.mp z)⟩) (λz=>?_) (by rw[<- r1.length,<- r2.length];exact hz)
 refine⟨.ref s.heap.objs.size,_,I.laid (t':=s.toks) (o:=.tup (xs++ys)) (λb ob q=>get?_push_of_some _ q) (Nat.le_refl _) ?_,rfl,q2 (λw=>z (r2.nil_iff.mpr w)) _ (I.hok.fresh (Nat.le_refl _))⟩
 exact⟨by rw[length_append];exact hz,_,r1.append r2,IsTup.new _ _⟩
end
def ixN (n:Nat)(i:Int):Option Nat:=if 0<=i then (if i<n then some i.toNat else none) else if -(n:Int)<=i then some (i+n).toNat else none
def atI {α:Type}(xs:List α)(i:Int):Option α:=(ixN xs.length i).bind λj=>xs[j]?
theorem Ybe {n:Nat}{i:Int}{j:Nat}(h:ixN n i=some j):seqIndex? i n=some j/\j<n/\-(n:Int)<=i/\i<n:=by
 unfold ixN at h
 by_cases h0:0<=i
 .rw [if_pos h0]at h
  by_cases h1:i<n
  .rw [if_pos h1]at h
   have e:i.toNat=j:=Option.some.inj h
   exact⟨by rw[seqIndex_of h0 h1,e],by omega,by omega,h1⟩
  .rw [if_neg h1]at h;cases h
 .rw [if_neg h0]at h
  by_cases h1 : -(n:Int)<=i
  .rw [if_pos h1]at h
   have e:(i+n).toNat=j:=Option.some.inj h
   exact⟨by rw[seqIndex_neg (by omega) h1,e],by omega,h1,by omega⟩
  .rw [if_neg h1]at h;cases h
theorem Ycd {α:Type}{xs:List α}{i:Int}{v:α}(h:atI xs i=some v):∃j,seqIndex? i xs.length=some j/\xs[j]?=some v/\j<xs.length/\-(xs.length:Int)<=i/\i<xs.length:=by
 unfold atI at h
 cases e:ixN xs.length i with
 |none=>rw[e]at h;cases h
 |some j=>
  rw[e]at h
  obtain⟨h1,h2,h3,h4⟩:=Ybe e
  exact⟨j,h1,h,h2,h3,h4⟩
theorem Xhp {α:Type}{xs:List α}{j:Nat}{v:α}(h:xs[j]?=some v):atI xs (j:Int)=some v:=by
 have hj:j<xs.length:=(List.getElem?_eq_some_iff.mp h).1
 have e:ixN xs.length (j:Int)=some j:=by
  unfold ixN
  rw[if_pos (by omega),if_pos (by omega)];simp
 unfold atI;rw[e];exact h
theorem Yep {α:Type}(xs:List α)(v:α):atI (xs++[v]) (-1)=some v:=by
 have hl:(xs++[v]).length=xs.length+1:=by simp
 have e:ixN (xs++[v]).length (-1)=some xs.length:=by
  unfold ixN
  rw[hl,if_neg (by decide),if_pos (by omega)]
  congr 1
  omega
 unfold atI
 rw[e]
 show (xs++[v])[xs.length]?=some v
 simp
def Yi8 (b:Expr):Prop:=∀o i,subscripted b false o i=operate [o,i] (getItem o i)
def IxR (X:Cx)(r:R2):Prop:=
 ∀(value slice:Expr) (pins:List (Addr×Obj)) (s:Shared) (Y:St) (H:Hp) (x y:V) (v u:Value) (Q:VK),Inv X pins Y H s->Xd3 x v->Xd3 y u->r x y H Q->
  subscripted slice false v u=operate [v,u] (getItem v u)->wpAny (model X.prog X.w) X.A (subscriptTail value slice v u) (EP X pins Y Q) X.xe s
def MtR (X:Cx)(id:String)(r:V->List V->Hp->VK->Prop):Prop:=
 ∀(pins:List (Addr×Obj)) (s:Shared) (Y:St) (H:Hp) (x:V) (xs:List V) (v:Value) (us:List Value) (Q:VK),Inv X pins Y H s->Xd3 x v->Xcd xs us->r x xs H Q->
  wpAny (model X.prog X.w) X.A (call (.builtin id) (v::us)) (EP X pins Y Q) X.xe s
section
variable {X:Cx}{a b:Expr}{ta tb:TE}{pos:Pos}
theorem Xax {r:R2}(hr:IxR X r)(ha:PE X a ta)(hb:PE X b tb)(hs:Yi8 b):PE X (.Subscript a b pos) (tOp r ta tb):=by
 intro pins s Y H Q I h
 exact Subscript_ (Ynl ha hb I h λv u s2 x y H2 I2 rx ry q=>hr a b pins s2 Y H2 x y v u Q I2 rx ry q (hs _ _))
def Ymh (K:Frag):R2:=λx y H Q=>∃p xs i v,x = .ref p/\y = .int i/\SqL K H p xs/\atI xs i=some v/\Q v H
def Yod (K:Frag):R2:=λx y H Q=>∃p xs i v,x = .ref p/\y = .int i/\SqT K H p xs/\atI xs i=some v/\Q v H
theorem Xbr:IxR X (Ymh X.K):=by
 intro value slice pins s Y H x y v u Q I rx ry h hs
 obtain⟨p,xs,i,z,rfl,rfl,hq,he,q⟩:=h
 cases rx
 obtain⟨t,rfl⟩:=ry
 obtain⟨its,r,pl,hz⟩:=I.list hq
 obtain⟨j,h1,h2,h3,h4,h5⟩:=Ycd he
 obtain⟨w,ew,rw'⟩:=r.get h2
 have hl:=r.length
 have hn:=Xod
 have fin:EP X pins Y Q w s:=⟨z,H,I,rw',q⟩
 by_cases h0:0<=i
 .have hj:i.toNat=j:=by
   rw[seqIndex_of h0 h5]at h1
   exact Option.some.inj h1
  exact item_listR pl.isList h0 (by omega) (by rw[hj];simpa using ew) fin hs
 .have hj:(i+(its.toArray.size:Int)).toNat=j:=by
   rw[seqIndex_neg (by omega) h4]at h1
   rw[size_toArray,<- hl]
   exact Option.some.inj h1
  exact subscriptTail_builtinR (x:=w) pl.isList.typeIs slot_list_getitem.lookup
   (wpAny_getItem_list_neg (Q:=λr s'=>r=w/\EP X pins Y Q r s') pl.isList (by omega) (by rw[size_toArray]<;>omega) (by omega) (by rw[hj];simpa using ew) ⟨rfl,fin⟩) hs
theorem Xas:IxR X (Yod X.K):=by
 intro value slice pins s Y H x y v u Q I rx ry h hs
 obtain⟨p,xs,i,z,rfl,rfl,hq,he,q⟩:=h
 cases rx
 obtain⟨t,rfl⟩:=ry
 obtain⟨its,r,pl,hz⟩:=I.tuple hq
 obtain⟨j,h1,h2,h3,h4,h5⟩:=Ycd he
 obtain⟨w,ew,rw'⟩:=r.get h2
 have hl:=r.length
 have hn:=Xod
 have fin:EP X pins Y Q w s:=⟨z,H,I,rw',q⟩
 exact subscriptTail_builtinR (x:=w) pl.typeIs slot_tuple_getitem.lookup
  (getItem_tuple (j:=j) (Q:=λr s'=>r=w/\EP X pins Y Q r s') pl (by omega) (by omega) (by rw[size_toArray,<- hl];exact h1) (by simpa using ew) ⟨rfl,fin⟩) hs
theorem Xx3 (its:List Value)(n j:Nat)(u:Value):Obj.mapSeq (·.setIfInBounds j u) {cls:=.type "list",data:=.seq its.toArray n}={cls:=.type "list",data:=.seq (its.set j u).toArray n}:=by
 simp[Obj.mapSeq]
theorem Inv.lst {pins:List (Addr×Obj)}{Y:St}{H:Hp}{s:Shared}{p:Addr}{xs:List V}(I:Inv X pins Y H s)(h:H p=some (.lst xs)):
  ∃(its:List Value) (n:Nat),Xcd xs its/\s.heap.get? p=some {cls:=.type "list",data:=.seq its.toArray n}/\xs.length<=sizeLine:=by
 obtain⟨z,its,n,r,e⟩:=I.hok p _ h
 exact⟨its,n,r,e,z⟩
theorem Inv.lstUpd {pins:List (Addr×Obj)}{Y:St}{H:Hp}{s:Shared}{p:Addr}{xs ys:List V}{its its':List Value}{n n':Nat}{f:Obj->Obj}(I:Inv X pins Y H s)(h:H p=some (.lst xs))
  (ho:s.heap.get? p=some {cls:=.type "list",data:=.seq its.toArray n}) (hf:f {cls:=.type "list",data:=.seq its.toArray n}={cls:=.type "list",data:=.seq its'.toArray n'}) (r:Xcd ys its') (hz:ys.length<=sizeLine) (t:Nat):
  Inv X pins Y (upd H p (.lst ys)) {s with heap:=s.heap.update p f,toks:=t}:=by
 have e:(s.heap.update p f).get? p=some {cls:=.type "list",data:=.seq its'.toArray n'}:=by
  rw[get?_update_self f ho (by rw[hf]<;>rfl),hf]
 refine I.write (x:=p) (e:=p) (by rw[h];trivial) (.inl rfl) (λb u hb q=>(get?_update_other _ _ (Ne.symm hb)).trans q) ⟨_,e⟩ ?_
 exact⟨hz,its',n',r,e⟩
def Ydi:V->V->V->Hp->(Hp->Prop)->Prop:=λo i v H Q=>∃p xs k j,o = .ref p/\i = .int k/\H p=some (.lst xs)/\ixN xs.length k=some j/\Q (upd H p (.lst (xs.set j v)))
theorem Xi1:Yns X Ydi:=by
 intro pins s Y H o i v ov iv u Q I ro ri rv h
 obtain⟨p,xs,k,j,rfl,rfl,hp,hj,q⟩:=h
 cases ro
 obtain⟨t,rfl⟩:=ri
 obtain⟨its,n,r,ho,hz⟩:=I.lst hp
 obtain⟨h1,h2,h3,h4⟩:=Ybe hj
 have hl:=r.length
 have hn:=Xod
 have I':Inv X pins Y (upd H p (.lst (xs.set j v))) {s with heap:=s.heap.update p (Obj.mapSeq (·.setIfInBounds j u))}:=
  I.lstUpd hp ho (Xx3 its n j u) (r.set rv j) (by rw[length_set];exact hz) s.toks
 by_cases h0:0<=k
 .have hk:k.toNat=j:=by
   rw[seqIndex_of h0 h4]at h1
   exact Option.some.inj h1
  exact PySem.W.ki_setAt ho h0 (by omega) (by rw[size_toArray,<- hl];exact h4) (by rw[hk];exact⟨_,I',q⟩)
 .have hk:(k+(its.toArray.size:Int)).toNat=j:=by
   rw[seqIndex_neg (by omega) h3]at h1
   rw[size_toArray,<- hl]
   exact Option.some.inj h1
  exact PySem.W.ki_setBack ho (by omega) (by rw[size_toArray,<- hl];exact h3) (by omega) (by rw[hk];exact⟨_,I',q⟩)
theorem Xr1 (lo hi:Option Int)(n:Nat):(sliceBounds lo hi none n).1=((HT.sIx n 0 lo:Nat):Int)/\(sliceBounds lo hi none n).2.1=((HT.sIx n n hi:Nat):Int)/\(sliceBounds lo hi none n).2.2=1:=by
 refine⟨?_,?_,rfl⟩
 .cases lo with
  |none=>simp[sliceBounds,HT.sIx]
  |some i=>
   simp only[sliceBounds,HT.sIx,getD_none,show (1:Int) > 0 by decide,if_true]
   by_cases h:i<0
   .simp only[h,if_true]<;>omega
   .simp only[h,if_false]<;>omega
 .cases hi with
  |none=>simp[sliceBounds,HT.sIx]
  |some i=>
   simp only[sliceBounds,HT.sIx,getD_none,show (1:Int) > 0 by decide,if_true]
   by_cases h:i<0
   .simp only[h,if_true]<;>omega
   .simp only[h,if_false]<;>omega
theorem Xqd (its:List Value)(lo hi:Option Int):slicePick its.toArray lo hi none=((its.drop (HT.sIx its.length 0 lo)).take (HT.sIx its.length its.length hi-HT.sIx its.length 0 lo)).toArray:=by
 obtain⟨h1,h2,h3⟩:=Xr1 lo hi its.toArray.size
 unfold slicePick
 rw[h1,h2,h3]
 simp only[sliceRange_one,pick_run,size_toArray]<;>rfl
def Ype (K:Frag):V->Option Int->Option Int->Hp->VK->Prop:=λx lo hi H Q=>∃a xs,x = .ref a/\SqL K H a xs/\∀p,H p=none->Q (.ref p) (upd H p (.lst (Yce xs lo hi)))
theorem Ygt:SlR X (Ype X.K):=by
 intro pins s Y H x v vl vu lo hi sl Q I rx hs pl pu h
 obtain⟨a,xs,rfl,hx,q⟩:=h
 cases rx
 obtain⟨its,r,ht,hz⟩:=I.list hx
 have hlen:=r.length
 refine⟨"list",_,slot_list_getitem.lookup,ht.isList.typeIs,?_⟩
 refine wpAny_getItem_list_slice ht.isList hs pl pu .none (by simp) ?_ (by rw[size_toArray]<;>omega)
 rw[Xqd,<- hlen]
 refine⟨.ref s.heap.objs.size,_,I.laid (t':=s.toks) (o:=.lst (Yce xs lo hi)) (λb ob q=>get?_push_of_some _ q) (Nat.le_refl _) ?_,rfl,q _ (I.hok.fresh (Nat.le_refl _))⟩
 exact⟨le_trans (Xol xs lo hi) hz,_,0,(r.drop (HT.sIx xs.length 0 lo)).take (HT.sIx xs.length xs.length hi-HT.sIx xs.length 0 lo),get?_push_size _ rfl⟩
def Yei:V->Bool
 | .non=>true
 | .bl _=>true
 | .int _=>true
 | .str _=>true
 |_=>false
def eqV:V->V->Bool
 | .non,.non=>true
 | .bl a,.bl b=>a==b
 | .bl a,.int b=>(if a then 1 else 0)==b
 | .int a,.bl b=>a==(if b then 1 else 0)
 | .int a,.int b=>a==b
 | .str a,.str b=>a==b
 |_,_=>false
theorem Ylm {A:Around}{s:Shared}{y x:V}{u v:Value}(ry:Xd3 y u)(rx:Xd3 x v)(fy:Yei y=true)(fx:Yei x=true):SeqAt.EqAt A s u v (eqV y x):=by
 cases y with
 |non=>
  cases ry
  cases x with
  |non=>cases rx;exact SeqAt.EqAt.same _
  |bl b=>cases rx;exact SeqAt.EqAt.none_bool b
  |int b=>obtain⟨t,rfl⟩:=rx;exact SeqAt.EqAt.none_int b t
  |str b=>obtain⟨t,rfl⟩:=rx;exact SeqAt.EqAt.none_str b t
  |_=>exact absurd (show false=true from fx) Bool.false_ne_true
 |bl a=>
  cases ry
  cases x with
  |non=>cases rx;exact SeqAt.EqAt.bool_none a
  |bl b=>cases rx;exact SeqAt.EqAt.bool_bool a b
  |int b=>obtain⟨t,rfl⟩:=rx;exact SeqAt.EqAt.bool_int a b t
  |str b=>obtain⟨t,rfl⟩:=rx;exact SeqAt.EqAt.bool_str a b t
  |_=>exact absurd (show false=true from fx) Bool.false_ne_true
 |int a=>
  obtain⟨t',rfl⟩:=ry
  cases x with
  |non=>cases rx;exact SeqAt.EqAt.int_none a t'
  |bl b=>cases rx;exact SeqAt.EqAt.int_bool a t' b
  |int b=>obtain⟨t,rfl⟩:=rx;exact SeqAt.EqAt.int_int a t' b t
  |str b=>obtain⟨t,rfl⟩:=rx;exact SeqAt.EqAt.int_str a t' b t
  |_=>exact absurd (show false=true from fx) Bool.false_ne_true
 |str a=>
  obtain⟨t',rfl⟩:=ry
  cases x with
  |non=>cases rx;exact SeqAt.EqAt.str_none a t'
  |bl b=>cases rx;exact SeqAt.EqAt.str_bool a t' b
  |int b=>obtain⟨t,rfl⟩:=rx;exact SeqAt.EqAt.str_int a t' b t
  |str b=>obtain⟨t,rfl⟩:=rx;exact SeqAt.EqAt.str_str a t' b t
  |_=>exact absurd (show false=true from fx) Bool.false_ne_true
 |_=>exact absurd (show false=true from fy) Bool.false_ne_true
theorem Xa2:Xhq X (.builtin "len") (λxs H Q=>∃p ys,xs=[.ref p]/\(SqL X.K H p ys∨SqT X.K H p ys)/\Q (.int ys.length) H):=by
 intro pins s Y H xs us Q I r h
 obtain⟨p,ys,rfl,hq,q⟩:=h
 obtain⟨u,rfl,rx⟩:=Xhx r
 cases rx
 have hn:=Xod
 rcases hq with hq |hq
 .obtain ⟨its,r',pl,hz⟩:=I.list hq
  have hlen:=r'.length
  exact Calls.call_len_list pl.isList (by simp only[size_toArray]<;>omega) ⟨.int ys.length,H,I.tok _,⟨s.toks+1,by rw[size_toArray,hlen]⟩,q⟩
 .obtain ⟨its,r',pl,hz⟩:=I.tuple hq
  have hlen:=r'.length
  exact len_tuple pl (by simp only[size_toArray]<;>omega) ⟨.int ys.length,H,I.tok _,⟨s.toks+1,by rw[size_toArray,hlen]⟩,q⟩
theorem Xmc:Xhq X (.builtin "len") (λxs H Q=>∃z,xs=[.str z]/\z.length<=sizeLine/\Q (.int z.length) H):=by
 intro pins s Y H xs us Q I r h
 obtain⟨z,rfl,hz,q⟩:=h
 obtain⟨u,rfl,t,rfl⟩:=Xhx r
 have hn:=Xod
 exact len_str (by omega) ⟨.int z.length,H,I.tok _,⟨_,rfl⟩,q⟩
theorem Xtt:Xhq X (.type "list") (λxs H Q=>∃p ys,xs=[.ref p]/\(SqL X.K H p ys∨SqT X.K H p ys)/\∀l,H l=none->Q (.ref l) (upd H l (.lst ys))):=by
 intro pins s Y H xs us Q I r h
 obtain⟨p,ys,rfl,hq,q⟩:=h
 obtain⟨u,rfl,rx⟩:=Xhx r
 cases rx
 have fin:∀(its:List Value),Xcd ys its->ys.length<=sizeLine->∀(h':Heap) (c':Nat),(∀b o',s.heap.get? b=some o'->h'.get? b=some o')->
   h'.get? s.heap.objs.size=some {cls:=.type "list",dict:=none,data:=.seq its.toArray c',slots:=#[]}->EP X pins Y Q (.ref s.heap.objs.size) {s with heap:=h'}:=λits r' hz h' c' kp e=>
  ⟨.ref s.heap.objs.size,_,I.laid (t':=s.toks) kp (Nat.le_refl _) (show Xgt X.prog X.w _ h' _ (.lst ys) from⟨hz,its,c',r',e⟩),rfl,q _ (I.hok.fresh (Nat.le_refl _))⟩
 rcases hq with hq |hq
 .obtain ⟨its,r',pl,hz⟩:=I.list hq
  have hlen:=r'.length
  obtain⟨o,ho,hc,n,hd⟩:=pl.isList
  exact call_list_seq p (.inl rfl) ho hc hd (λh' c' kp e=>fin its r' hz h' c' kp e) (by simp only[size_toArray]<;>omega)
 .obtain ⟨its,r',pl,hz⟩:=I.tuple hq
  have hlen:=r'.length
  obtain⟨o,ho,hc,n,hd⟩:=pl
  exact call_list_seq p (.inr rfl) ho hc hd (λh' c' kp e=>fin its r' hz h' c' kp e) (by simp only[size_toArray]<;>omega)
theorem Xrf:Xhq X (.type "tuple") (λxs H Q=>∃p ys,xs=[.ref p]/\((SqL X.K H p ys/\∀l,H l=none->Q (.ref l) (upd H l (.tup ys)))∨(SqT X.K H p ys/\Q (.ref p) H))):=by
 intro pins s Y H xs us Q I r h
 obtain⟨p,ys,rfl,h⟩:=h
 obtain⟨u,rfl,rx⟩:=Xhx r
 cases rx
 rcases h with⟨hq,q⟩ | ⟨hq,q⟩
 .obtain ⟨its,r',pl,hz⟩:=I.list hq
  have hlen:=r'.length
  refine call_tuple_list pl.isList (λh' kp=>?_) (by simp only[size_toArray]<;>omega)
  have I1:Inv X pins Y H {s with heap:=h'}:=I.kept (t':=s.toks) kp
  have I2:Inv X pins Y (upd H h'.objs.size (.tup ys)) {s with heap:=h'.push {cls:=.type "tuple",data:=.seq its.toArray}}:=
   I1.laid (t':=s.toks) (λb o e=>get?_push_of_some _ e) (Nat.le_refl _) (show Xgt X.prog X.w _ _ _ (.tup ys) from⟨hz,its,r',IsTup.new _ _⟩)
  exact⟨.ref h'.objs.size,_,I2,rfl,q _ (I1.hok.fresh (Nat.le_refl _))⟩
 .obtain ⟨its,r',pl,hz⟩:=I.tuple hq
  exact call_tuple_same pl ⟨.ref p,H,I,rfl,q⟩
def tyV (K:Frag)(T:String)(x:V)(H:Hp):Prop:=match x with
 | .str _=>T = "str"
 | .int _=>T = "int"
 | .ref p=>(T = "list"/\∃xs,SqL K H p xs)∨(T = "tuple"/\∃o,K.lookup p=some o/\o.cls = .type "tuple"/\o.dict=none)∨
   (T = "dict"/\((∃kvs,H p=some (.dK kvs))∨∃kvs,H p=some (.dT kvs)))∨(T = "set"/\∃S n,H p=some (.set S n))
 |_=>False
theorem Yev {pins:List (Addr×Obj)}{Y:St}{H:Hp}{s:Shared}{T:String}{x:V}{v:Value}(I:Inv X pins Y H s)(r:Xd3 x v)(ty:tyV X.K T x H):
  s.TypeIs v T/\∀a,v = .ref a->∃ob,s.heap.get? a=some ob/\ob.dict=none:=by
 cases x with
 |str z=>
  obtain⟨t,rfl⟩:=r
  cases (show T = "str" from ty)
  exact⟨typeIs_str s z t,λ_ e=>nomatch e⟩
 |int i=>
  obtain⟨t,rfl⟩:=r
  cases (show T = "int" from ty)
  exact⟨typeIs_int s i t,λ_ e=>nomatch e⟩
 |ref p =>
  cases r
  rcases ty with⟨rfl,xs,hq⟩ | ⟨rfl,o,hk,hc,hd⟩ | ⟨rfl,hk⟩ | ⟨rfl,S,n,hk⟩
  .obtain ⟨its,_,pl,_⟩:=I.list hq
   refine⟨pl.isList.typeIs,λa e=>?_⟩
   cases e
   obtain⟨o,n,e,c,hd,_⟩:=pl
   exact⟨o,e,hd⟩
  .refine ⟨⟨o,I.kIn p o hk,hc⟩,λa e=>?_⟩
   cases e
   exact⟨o,I.kIn _ o hk,hd⟩
  .have z:∃o,s.heap.get? p=some o/\o.ExactDict:=by
    rcases hk with⟨kvs,hk⟩ | ⟨kvs,hk⟩
    .obtain ⟨_,_,_,_,o,_,_,e,ex,_⟩:=I.hok p _ hk
     exact⟨o,e,ex⟩
    .obtain ⟨_,_,_,_,o,_,_,e,ex,_⟩:=I.hok p _ hk
     exact⟨o,e,ex⟩
   obtain⟨o,e,ex⟩:=z
   refine⟨⟨o,e,ex.1⟩,λa e2=>?_⟩
   cases e2
   exact⟨o,e,ex.2.1⟩
  .obtain ⟨o,_,_,_,e,ex,_⟩:=I.hok p _ hk
   refine⟨⟨o,e,ex.1⟩,λa e2=>?_⟩
   cases e2
   exact⟨o,e,ex.2.1⟩
 |_=>exact False.elim ty
def Ymg (K:Frag)(T:String)(r:V->List V->Hp->VK->Prop)(to:TE):TE:=λY H Q=>to Y H λx H1=>tyV K T x H1/\r x [] H1 Q
def tBM (K:Frag)(T:String)(r:V->List V->Hp->VK->Prop)(to:TE)(t:TA):TE:=λY H Q=>to Y H λx H1=>tyV K T x H1/\t Y H1 λxs H2=>r x xs H2 Q
variable {o e:Expr}{es:List Expr}{to:TE}{t:TA}{name:Str}{apos cpos:Pos}{T id:String}{r:V->List V->Hp->VK->Prop}
theorem Yam (pa:PlainAttrs T)(slot:Slot T name id)(hty:typeOf (.builtin id)=pure (.type "method_descriptor"))(hm:MtR X id r)(ho:PE X o to)
  (hbase:attributeBase o name X.env (eval o X.env)=eval o X.env:=by rfl) (hline:(apos.endLine==cpos.line)=true:=by rfl):PE X (.Call (.Attribute o name apos) [] [] cpos) (Ymg X.K T r to):=by
 intro pins s Y H Q I h
 refine wpAny_Call_method0_late hbase hline (thn (ho pins s Y H _ I h) λv s1 ⟨x,H1,I1,r1,ty,q1⟩=>?_)
 obtain⟨h1,h2⟩:=Yev I1 r1 ty
 exact⟨T,id,pa,slot,hty,h1,h2,Calls.callWith_builtin rfl (PySem.evalArgs_none (hm pins s1 Y H1 x [] v [] Q I1 r1 .nil q1))⟩
theorem Xik (pa:PlainAttrs T)(slot:Slot T name id)(hty:typeOf (.builtin id)=pure (.type "method_descriptor"))(hm:MtR X id r)(ho:PE X o to)(ha:PA X (e::es) t)
  (hbase:attributeBase o name X.env (eval o X.env)=eval o X.env:=by rfl)
  (hfew:((backTo cpos (starEach (e::es) X.env)).all (λx => !x.1) && (backToKw cpos (keywordEach [] X.env)).all (λx=>x.1.isSome)
   && decide ((e::es).length+([]:List Keyword).length+(if ([]:List Keyword).isEmpty then 0 else 1)<30))=true:=by rfl)
  (hline:(apos.endLine==cpos.line)=true:=by rfl) (hs:starEach (e::es) X.env=(false,eval e X.env)::starEach es X.env:=by rfl) (hplain:(backTo cpos (starEach es X.env)).any (·.1)=false:=by rfl):
  PE X (.Call (.Attribute o name apos) (e::es) [] cpos) (tBM X.K T r to t):=by
 intro pins s Y H Q I h
 refine wpAny_Call_method_late hbase hfew hline rfl (thn (ho pins s Y H _ I h) λv s1 ⟨x,H1,I1,r1,ty,q1⟩=>?_)
 obtain⟨h1,h2⟩:=Yev I1 r1 ty
 refine⟨T,id,pa,slot,hty,h1,h2,?_⟩
 have hA:=ha cpos pins s1 Y H1 _ I1 q1
 rw[hs]at hA ⊢
 refine Calls.callWith_builtin (by show (false || (backTo cpos (starEach es X.env)).any (·.1))=false;rw[hplain]<;>rfl) (Calls.evalArgs_plain ?_)
 exact thn hA λus s2 ⟨vs,H2,I2,r2,q2⟩=>hm pins s2 Y H2 x vs v us Q I2 r1 r2 q2
end
def MtM (X:Cx)(id:String)(r:V->List V->Hp->VK->Prop):Prop:=
 ∀(pins:List (Addr×Obj)) (s:Shared) (Y:St) (H:Hp) (x:V) (xs:List V) (v:Value) (us:List Value) (Q:VK),Inv X pins Y H s->Xd3 x v->Xcd xs us->r x xs H Q->
  wpAny (model X.prog X.w) X.A (call (.builtin id) (v::us)) (EP X pins Y Q) X.xe s
theorem Xcd.one:∀{x:V} {us:List Value},Xcd [x] us->∃u,us=[u]/\Xd3 x u
 |_,_,.cons r .nil=>⟨_,rfl,r⟩
theorem Xcd.zero:∀{us:List Value},Xcd [] us->us=[]
 |_,.nil=>rfl
theorem Xcd.dropLast {xs:List V}{us:List Value}(h:Xcd xs us):Xcd xs.dropLast us.dropLast:=by
 induction h with
 |nil=>exact .nil
 |cons r t ih=>
  cases t with
  |nil=>exact .nil
  |cons q t'=>exact .cons r ih
theorem Xcd.rep {xs:List V}{us:List Value}(h:Xcd xs us):∀k:Nat,Xcd (List.replicate k xs).flatten (List.replicate k us).flatten
 | 0=>.nil
 |k+1=>by
  rw[replicate_succ,replicate_succ,flatten_cons,flatten_cons]
  exact Xcd.append h (Xcd.rep h k)
theorem Xyf {α:Type}(l:List α):l.eraseIdx (l.length-1)=l.dropLast:=by
 induction l with
 |nil=>rfl
 |cons a r ih=>
  cases r with
  |nil=>rfl
  |cons b r=>
   have e:(a::b::r).length-1=((b::r).length-1)+1:=by
    have h1:(a::b::r).length=r.length+2:=rfl
    have h2:(b::r).length=r.length+1:=rfl
    omega
   rw[e,List.eraseIdx_cons_succ,ih]
   all_goals rfl
theorem Xtj (its:List Value):∀(k:Nat) (acc:List Value),
  List.foldl (λx1 x2=>x1++x2) acc.toArray (List.replicate k its.toArray)=(acc++(List.replicate k its).flatten).toArray
 | 0,acc=>by simp
 |k + 1,acc=>by
  have e:acc.toArray++its.toArray=(acc++its).toArray:=by simp
  have e2:(acc++its)++(List.replicate k its).flatten=acc++(List.replicate (k+1) its).flatten:=by
   rw[replicate_succ,flatten_cons,append_assoc]
  rw[<- e2,<- Xtj its k (acc++its),<- e,replicate_succ,foldl_cons]
section
variable {X:Cx}{pins:List (Addr×Obj)}{Y:St}{H:Hp}{s:Shared}{l b:Addr}{xs ys zs:List V}
theorem Inv.lset {its its':List Value}{n:Nat}{f:Array Value->Array Value}{t':Nat}(I:Inv X pins Y H s)(hH:H l=some (.lst xs))
  (e:s.heap.get? l=some {cls:=.type "list",data:=.seq its.toArray n}) (hf:f its.toArray=its'.toArray) (hv:Xcd ys its') (hz:ys.length<=sizeLine):
  Inv X pins Y (upd H l (.lst ys)) {s with heap:=s.heap.update l (Obj.mapSeq f),toks:=t'}:=by
 have q:=PySem.IsL.update e f
 rw[hf]at q
 refine I.write (x:=l) (e:=l) (by rw[hH];exact trivial) (.inl rfl) (λb' u hb hu=>(get?_update_other s.heap (Obj.mapSeq f) (Ne.symm hb)).trans hu) ⟨_,q⟩ ?_
 exact⟨hz,its',_,hv,q⟩
theorem Inv.lnew {its:List Value}{t':Nat}(I:Inv X pins Y H s)(hv:Xcd ys its)(hz:ys.length<=sizeLine):
  Inv X pins Y (upd H s.heap.objs.size (.lst ys)) {s with heap:=s.heap.push {cls:=.type "list",data:=.seq its.toArray},toks:=t'}:=
 I.laid (λ_ _ q=>get?_push_of_some _ q) (Nat.le_refl _) ⟨hz,its,0,hv,get?_push_size _ rfl⟩
theorem Inv.fresh (I:Inv X pins Y H s):H s.heap.objs.size=none:=I.hok.fresh (Nat.le_refl _)
theorem Inv.lstM (I:Inv X pins Y H s)(hH:H l=some (.lst xs)):xs.length<=sizeLine/\∃(its:List Value) (n:Nat),Xcd xs its/\xs.length=its.length/\s.heap.get? l=some {cls:=.type "list",data:=.seq its.toArray n}:=by
 obtain⟨z,its,n,r,e⟩:=I.hok l _ hH
 exact⟨z,its,n,r,r.length,e⟩
theorem Xwm {n:Nat}(h:n<=sizeLine):Builtin.List.listTooLong n=false:=by
 unfold Builtin.List.listTooLong
 exact decide_eq_false (by omega)
end
section
variable {X:Cx}
def rAppend:V->List V->Hp->VK->Prop:=λx vs H Q=>∃l xs y,x = .ref l/\vs=[y]/\H l=some (.lst xs)/\xs.length<sizeLine/\Q .non (upd H l (.lst (xs++[y])))
theorem Xci:MtM X "list.append" rAppend:=by
 intro pins s Y H x vs v us Q I rx rv h
 obtain⟨l,xs,y,rfl,rfl,hH,hz,q⟩:=h
 cases rx
 obtain⟨u,rfl,ru⟩:=rv.one
 obtain⟨z,its,n,r,hl,e⟩:=I.lstM hH
 refine call_meets F.slot_list_append ⟨_,e,rfl⟩ F.entry_list_append (F.args_list_append_2 _ _) (PySem.list_append l its.toArray n u (by rw[size_toArray];omega)) ⟨e,?_⟩
 refine⟨.non,_,I.lset (its':=its++[u]) hH e (by simp) (r.append (.cons ru .nil)) ?_,rfl,q⟩
 rw[length_append,length_singleton]
 omega
def rPop:V->List V->Hp->VK->Prop:=λx vs H Q=>∃l xs y,x = .ref l/\vs=[]/\H l=some (.lst xs)/\xs[xs.length-1]?=some y/\Q y (upd H l (.lst xs.dropLast))
theorem Yfw:MtM X "list.pop" rPop:=by
 intro pins s Y H x vs v us Q I rx rv h
 obtain⟨l,xs,y,rfl,rfl,hH,hy,q⟩:=h
 cases rx
 have hus:=rv.zero
 subst hus
 obtain⟨z,its,n,r,hl,e⟩:=I.lstM hH
 obtain⟨u,hu,ru⟩:=r.get hy
 have hy':its.toArray[its.toArray.size-1]?=some u:=by
  show its.toArray[its.length-1]?=some u
  rw[<- Array.getElem?_toList,<- hl]
  exact hu
 refine call_meets F.slot_list_pop ⟨_,e,rfl⟩ F.entry_list_pop (F.args_list_pop_1 _) (MeetsSeq.list_pop_last l its.toArray n u hy' (by rw[size_toArray];omega)) ⟨e,?_⟩
 refine⟨y,_,I.lset (its':=its.dropLast) hH e ?_ r.dropLast ?_,ru,q⟩
 .show its.toArray.eraseIdxIfInBounds (its.toArray.size-1)=its.dropLast.toArray
  rw[size_toArray,List.eraseIdxIfInBounds_toArray,Xyf]
 .rw [List.length_dropLast]
  omega
def Yob:R2:=λx y H Q=>∃l k xs,x = .ref l/\y = .int k/\H l=some (.lst xs)/\-(2^63)<=k/\k<2^63/\xs.length*k.toNat<=sizeLine/\
 ∀p,H p=none->Q (.ref p) (upd H p (.lst (List.replicate k.toNat xs).flatten))
theorem Yid {α:Type}(xs:List α)(k:Nat):(List.replicate k xs).flatten.length=k*xs.length:=by
 induction k with
 |zero=>simp
 |succ k ih=>rw[replicate_succ,flatten_cons,length_append,ih,succ_mul,Nat.add_comm]
theorem Yfr:OpR X (binaryOp .Mult) Yob:=by
 intro pins s Y H x y v u Q I rx ry h
 obtain⟨l,k,xs,rfl,rfl,hH,h1,h2,hz,q⟩:=h
 cases rx
 obtain⟨t,rfl⟩:=ry
 obtain⟨z,its,n,r,hl,e⟩:=I.lstM hH
 have hlen:its.toArray.size*k.toNat<=sizeLine:=by rw[size_toArray,<- hl];exact hz
 have hcap:¬ its.toArray.size*k.toNat > (2^63-1) / 8:=by
  have:(sizeLine:Nat)<=(2^63-1) / 8:=by decide
  omega
 have hfit:¬ (!Builtin.List.listFitsIndex k)=true:=by
  rw[fitsIndex_both h1 h2]
  exact Bool.false_ne_true
 have hlong:¬ Builtin.List.listTooLong (its.toArray.size*k.toNat)=true:=by
  rw[Xwm hlen]
  exact Bool.false_ne_true
 have hnew:List.foldl (λx1 x2=>x1++x2) #[] (List.replicate (if its.toArray.isEmpty=true then 0 else k.toNat) its.toArray)=(List.replicate k.toNat its).flatten.toArray:=by
  have f0:∀m:Nat,List.foldl (λx1 x2=>x1++x2) #[] (List.replicate m its.toArray)=(List.replicate m its).flatten.toArray:=λm=>by
   have:=Xtj its m []
   rw[nil_append]at this
   exact this
  rw[f0]
  cases its with
  |nil=>simp
  |cons a r'=>rw[if_neg (by simp)]
 refine wpAny_binaryOp_repeat_ref (T := "list") (U := "int") (by decide) ⟨_,e,rfl⟩ (λs'=>typeIs_int s' k t) noFill_list_mul F.fills_int_mul F.slot_int_rmul repeat_list F.slot_int_index.lookup
  (call_meets F.slot_int_rmul (typeIs_int s k t) F.entry_int_rmul (F.args_int_rmul_2 _ _) (int___rmul___int_list k t l its.toArray n)
   ⟨e,rfl,⟨_,e,rfl⟩,call_meets F.slot_list_mul ⟨_,e,rfl⟩ F.entry_list_mul (F.args_list_mul_2 _ _) (AutoListH.list___mul___list_int_3 l its.toArray n k t hfit hcap hlong) ⟨e,?_⟩⟩)
 rw[hnew]
 exact⟨.ref _,_,I.lnew (t':=s.toks) (r.rep k.toNat) (by rw[Yid,Nat.mul_comm];exact hz),rfl,q _ I.fresh⟩
end
section
variable {prog:Program}{w:World}{A:Around}{E:Value->Shared->Prop}{s:Shared}
set_option maxRecDepth 100000 in
end
section
variable {X:Cx}
end
end L2
namespace Att
open PySem PySem.W PySem.Calls PyProof.Rows
theorem Xog {P:Params}{h:Heap}:∀(ns:List Int) (vs:List Value),WellAll P h vs (ns.map WData.int)->IntsAre vs ns:=by
 intro ns
 induction ns with
 |nil=>
  intro vs w
  rw[map_nil]at w
  cases w
  exact .nil
 |cons n ns ih=>
  intro vs w
  rw[map_cons]at w
  cases w with
  |cons a b=>
   cases a
   exact .cons _ _ (ih _ b)
theorem Xr5 {l:OpenLaw}{n:Nat}(hn:l.most=some n){P:Params}{h:Heap}{args:List WData}{vals:List Value}
  (hpre:l.row.toRowW.claim.pre args=true) (hwl:WellAll P h vals args):
  ∃a vs ns,vals=[Value.ref a]/\args=[WData.list (ns.map WData.int)]/\h.get? a=some {cls:=.type "list",data:=.seq vs.toArray}/\IntsAre vs ns/\ns.length<=n:=by
 have hsh:WShape.hasAll [] args [.list .int]=true:=(pre_splitW hpre).1
 have hc:l.pre.holds [] {args:=args}=true:=(pre_splitW hpre).2
 obtain⟨d,r,rfl,h1,h2⟩:=hasAllW_cons hsh
 obtain rfl:=hasAllW_nil h2
 obtain⟨xs,rfl,h3⟩:=hasW_list h1
 obtain⟨ns,rfl⟩:=items_int h3
 have hlen:ns.length<=n:=by
  unfold OpenLaw.pre at hc
  have h4:(WTm.not (.lt (.lit (.int (n:Int))) (.len (.arg 0)))).holds [] {args:=[.list (ns.map .int)]}=true:=by
   have h4:=(holds_andW hc).1
   rw[hn]at h4
   exact h4
  have h5:=condW_of h4 (w_not (w_lt w_lit (w_len_list (w_arg rfl))))
  rw[length_map]at h5
  refine Nat.le_of_not_lt λq=>?_
  have q':(n:Int)<((ns.length:Nat):Int):=by omega
  first
   | (rw[decide_eq_true q']at h5;exact absurd h5 (by decide))
   | (simp at h5;omega)
 cases hwl with
 |cons w1 w2=>
  cases w2
  cases w1 with
  |list ho hall=>exact⟨_,_,ns,rfl,rfl,ho,Xog ns _ hall,hlen⟩
theorem Xso (l:OpenLaw)(args:List WData):l.row.toRowW.claim.post args (.bool true) args=true:=
 postW_of (r:=l.row.toRowW) (X:=(true==true))
  (show WShape.has [] (.bool true) .bool=true by first |rfl |decide |simp[WShape.has,WShape.arms,WShape.armsAll])
  (show (WTm.eq .res (.lit (.bool true))).value [] {args:=args,res:=some (.bool true),after:=args}=some (.bool (true==true)) from w_eq_bool (w_res rfl) w_lit) rfl
theorem attach_call {l:OpenLaw}{n:Nat}{q:Program}{loose:List Str}{XP:(Str->Option Value)->Heap->Prop}{YP:World->Heap->Prop}{d:DefRec}
  (hn:l.most=some n) (hdf:d.params.defaults=[])
  (call:∀(w:World) (s₀ s₁:Shared) (mg mb:Str->Option Value) (fa:Addr) (o:Obj) (pm cd doc:Value) (a:Addr) (vs:List Value) (ns:List Int),
   Ground q loose [] XP w s₀ mg mb s₁.heap->YP w s₁.heap->
   s₁.heap.get? fa=some o->o.data = .func (docDef d.name d.params d.body d.scope pm cd doc)->s₁.heap.CodeRec cd d.name->mg d.name=some (.ref fa)->
   s₁.heap.get? a=some {cls:=.type "list",data:=.seq vs.toArray}->IntsAre vs ns->ns.length<=n->s₁.gens=#[]->
   codeAny (model l.prog w) callerA (.call (.ref fa) ⟨[.ref a],[]⟩) (λr s'=>r = .ok (.ret (.bool true))/\OldK s₁.heap s'.heap/\s'.os=s₁.os/\AllBare s'.gens) s₁):
  WalkO q loose XP YP l.row.toRowW d [] (λf vs=>PySem.call f vs):=by
 intro w s₀ s₁ mg mb G σ fa o pm cd doc dV kV ho hd hcd hD hmg hg args vals as hpre hlay hrd hwl hlo
 obtain rfl:dV = .none:=Dflts.none hD hdf
 obtain rfl:kV = .none:=Dflts.noKw hD
 obtain⟨a,vs,ns,rfl,rfl,hobj,hints,hlen⟩:=Xr5 hn hpre hwl
 refine enter_call (codeAny_mono (call w s₀ s₁ mg mb fa o pm cd doc a vs ns G σ ho (fd_plain hd) hcd hmg hobj hints hlen hg) λr s' hq=>?_)
 obtain⟨rfl,h2,h3,h4⟩:=hq
 exact⟨.inl ⟨.bool true,.bool true,[],rfl,λ_=>rfl,.bool true,Xso l _,λ_=>⟨List.Pairwise.nil,λ_ hm=>(nomatch hm)⟩⟩,h2,h3,h4⟩
section
variable {prog:Program}{w:World}{A:Around}{E:Value->Shared->Prop}{s:Shared}{K:Frag}
end
end Att
namespace L2
open PySem PySem.Spec PyProof.Rows
theorem Xru:∀{vs:List Value} {ns:List Int},IntsAre vs ns->Xcd (ns.map V.int) vs
 |_,_,.nil=>.nil
 |_,_,.cons n t h=>.cons ⟨t,rfl⟩ (Xru h)
def Ynt (H:Hp):Prop:=∀b,H b=none∨∃o xs,H b=some (.frz o (.lst xs))
theorem Xws {P:Program}{w:World}{K:Frag}{mg mb:Str->Option Value}{CX:CXT}{k:Nat}{fa a:Addr}{fd:FuncData}{x:Str}{sp:Sp}{s₁:Shared}{vs:List Value}{ns:List Int}
  (KX:K.In s₁.heap) (hns:s₁.heap.Ns mainGlobals mg) (hb:s₁.heap.Ns builtinsNs mb) (hbb:∀x:Str,x ≠ "__name__"->mb x=bootBuiltins x) (hlim:s₁.heap.NoLimit) (hg:s₁.gens=#[])
  (ha:s₁.heap.get? a=some {cls:=.type "list",data:=.seq vs.toArray}) (hi:IntsAre vs ns) (hl:ns.length<=sizeLine) (hr:Room k callerA)
  (F:∀base:Heap,K.In base->base.Ns mainGlobals mg->FnOk P w K mg base CX k fa fd [x] sp) (hbind:∀(s:Shared) (u:Value),BindsTo s fd ⟨[u],[]⟩ [(x,u)])
  (hsp:∀H:Hp,Ynt H->SqL K H a (ns.map V.int)->sp [.ref a] H (λv _=>v = .bl true) λ_ _ _=>False)
  (hCX:∀H e s',CX [] H s₁ (λ_ _ _=>False) e s'->False):
  codeAny (model P w) callerA (.call (.ref fa) ⟨[.ref a],[]⟩) (λr s'=>r = .ok (.ret (.bool true))/\OldK s₁.heap s'.heap/\s'.os=s₁.os/\AllBare s'.gens) s₁:=by
 have rv:=Xru hi
 have lenV:=hi.length
 -- from an abstract heap in which nothing but the script may be tracked
 have core : ∀H:Hp,Ynt H->SqL K H a (ns.map V.int)->HOk P w H s₁.heap->(∀b,H b≠none->b=a)->(H a≠none->K.lookup a=none)->
   codeAny (model P w) callerA (.call (.ref fa) ⟨[.ref a],[]⟩) (λr s'=>r = .ok (.ret (.bool true))/\OldK s₁.heap s'.heap/\s'.os=s₁.os/\AllBare s'.gens) s₁:=by
  intro H hO hS hok hA hK
  have base_of:∀{b:Addr} {o:Obj},s₁.heap.get? b=some o->H b=none->(Yed s₁.heap H).get? b=some o:=λe n=>Yec e n
  have noA:∀{b:Addr} {o:Obj} {es:Array DictEntry} {ep:Nat},s₁.heap.get? b=some o->o.data = .dict es ep->H b=none:=λ{b o es ep} e d=>by
   cases q:H b with
   |none=>rfl
   |some u=>
    have e':b=a:=hA b (by rw[q];simp)
    subst e'
    rw[ha]at e;cases e
    have d':Data.seq vs.toArray _=Data.dict es ep:=d
    cases d'
  have nsK:∀{b:Addr} {m:Str->Option Value},s₁.heap.Ns b m->(Yed s₁.heap H).Ns b m:=λ{b m} ⟨o,es,ep,e,d,r⟩=>⟨o,es,ep,base_of e (noA e d),d,r⟩
  have hKb:K.In (Yed s₁.heap H):=λb o e=>base_of (KX b o e) (by
   cases q:H b with
   |none=>rfl
   |some u=>
    have e':b=a:=hA b (by rw[q];simp)
    subst e'
    rw[hK (by rw[q];simp)]at e;cases e)
  have hM:Mod K mg (Yed s₁.heap H):=⟨hKb,nsK hns,⟨mb,nsK hb,hbb⟩,let⟨mc,h1,h2⟩:=hlim;⟨mc,nsK h1,h2⟩⟩
  have e0:Env0 P w K mg (Yed s₁.heap H) callerA [] s₁ H:=⟨rfl,hM,λb o e=>Yh1 e,le_of_eq (Ybh _ _),trivial,λb hb=>absurd (show b∈([]:List Addr) from hb) (by simp),hok,.of_eq hg⟩
  refine codeAny_mono ((F _ hKb (nsK hns)).run callerA [] s₁ H ⟨[.ref a],[]⟩ [.ref a] [.ref a] _ _ hr e0 (hbind s₁ (.ref a)) (.cons rfl .nil) (hsp H hO hS)) λr s' h=>?_
  cases r with
  |error e=>exact (hCX H e s' h).elim
  |ok fl =>
   cases fl with
   |next=>exact False.elim h
   |brk=>exact False.elim h
   |cont=>exact False.elim h
   |ret u=>
    obtain⟨v,H',os,bare,un,hok',r',q⟩:=h
    have q':v = .bl true:=q
    subst q'
    obtain rfl:u=Value.bool true:=r'
    refine⟨rfl,OldK.of_keep λb o e=>?_,os,bare⟩
    cases q:H b with
    |none=>exact un.keep b o e q (by intro z;exact absurd (show b∈([]:List Addr) from z) (by simp)) (by simp)
    |some u=>
     rcases hO b with z | ⟨ob,xs,z⟩
     .rw [q]at z;cases z
     .have z2:=un.frzs b ob _ z
      obtain⟨e1,_⟩:=hok b _ z
      obtain⟨e2,_⟩:=hok' b _ z2
      rw[e]at e1;cases e1
      exact e2
 cases hk:K.lookup a with
 |some o=>
  -- the script is one of the module's own objects
  have e:=KX a o hk
  rw[ha]at e
  cases e
  refine core (λ_=>none) (λ_=>.inl rfl) (.inr ⟨_,vs.toArray,_,hk,rfl,rfl,rfl,by rw[size_toArray,lenV];exact hl,by simpa using rv⟩) (λb u z=>by have z':(none:Option HO)=some u:=z;cases z') (λb z=>absurd rfl z) λz=>absurd rfl z
 |none=>
  refine core (λb=>if b=a then some (.frz {cls:=.type "list",data:=.seq vs.toArray} (.lst (ns.map V.int))) else none) (λb=>?_) (.inl (.inr ⟨{cls:=.type "list",data:=.seq vs.toArray},if_pos rfl⟩)) (λb u z=>?_) (λb z=>?_) λ_=>hk
  .by_cases hb:b=a
   .exact .inr ⟨_,_,if_pos hb⟩
   .exact .inl (if_neg hb)
  .by_cases hb:b=a
   .have z':=(if_pos hb).symm.trans z
    cases z'
    subst hb
    exact⟨ha,by rw[length_map];exact hl,vs,_,rv,ha⟩
   .have z':=(if_neg hb).symm.trans z
    cases z'
  .by_cases hb:b=a
   .exact hb
   .exact absurd (if_neg hb) z
theorem walk_of {l:PySem.W.OpenLaw}{n k:Nat}{q:Program}{loose:List Str}{XP:(Str->Option Value)->Heap->Prop}{YP:World->Heap->Prop}{d:DefRec}{K:Params->Frag}{CX:World->CXT}{sp:World->Sp}{x:Str}
  (hn:l.most=some n) (hn2:n<=sizeLine) (hdf:d.params.defaults=[]) (hr:Room k callerA)
  (hY:∀(w:World) (h:Heap),YP w h->(K w.params).In h)
  (F:∀(w:World) (mg:Str->Option Value) (fa:Addr) (h:Heap),(K w.params).In h->h.Ns mainGlobals mg->mg d.name=some (.ref fa)->
   ∃fd:FuncData,(∀(s:Shared) (u:Value),BindsTo s fd ⟨[u],[]⟩ [(x,u)])/\
    ∀base:Heap,(K w.params).In base->base.Ns mainGlobals mg->FnOk l.prog w (K w.params) mg base (CX w) k fa fd [x] (sp w))
  (hsp:∀(w:World) (H:Hp) (a:Addr) (ns:List Int),ns.length<=n->Ynt H->SqL (K w.params) H a (ns.map V.int)->sp w [.ref a] H (λv _=>v = .bl true) λ_ _ _=>False)
  (hCX:∀(w:World) (H:Hp) (s:Shared) (e:Value) (s':Shared),CX w [] H s (λ_ _ _=>False) e s'->False):
  PySem.W.WalkO q loose XP YP l.row.toRowW d [] (λf vs=>PySem.call f vs):=by
 refine Att.attach_call hn hdf λw s₀ s₁ mg mb fa o pm cd doc a vs ns G σ ho hd hcd hmg hobj hints hlen hg=>?_
 have KX:=hY w _ σ
 obtain⟨fd,hb,hF⟩:=F w mg fa _ KX G.T.g hmg
 exact Xws KX G.T.g G.T.b G.T.builtins G.T.nolimit hg hobj hints (le_trans hlen hn2) hr hF hb (λH hO hS=>hsp w H a ns hlen hO hS) λH e s'=>hCX w H s₁ e s'
def Xdh (s:Stmt)(j:Nat):Stmt:=match s with
 | .ClassDef _ _ _ body _ _ _ _ _ _ _=>body.getD j (.Pass ⟨0,0,0,0⟩)
 |_=>.Pass ⟨0,0,0,0⟩
def Xb9 (s:Stmt):Arguments:=match s with
 | .FunctionDef _ a _ _ _ _ _ _ _ _=>a
 |_=>{posonlyargs:=[],args:=[],vararg:=none,kwonlyargs:=[],kw_defaults:=[],kwarg:=none,defaults:=[]}
def Xbn (s:Stmt):List Stmt:=match s with
 | .FunctionDef _ _ b _ _ _ _ _ _ _=>b
 |_=>[]
def Xaf (s:Stmt):Scope:=match s with
 | .FunctionDef _ _ _ _ _ _ sc _ _ _=>sc
 |_=>{kind:=.function,names:=[],isGenerator:=false,isCoroutine:=false}
abbrev CX0:CXT:=λ_ _ _ _ _ _=>False
abbrev E0:XK:=λ_ _ _=>False
theorem Xxu {X:Cx}:Xot CX0 X E0:=λ_ _ _ _ _ _ _ h=>h.elim
structure Fun (K:Frag) (x qual:Str) (st:Stmt) (f:Addr) (fd:FuncData):Prop where
 ex:∃(oc:Value) (od:Option Addr) (kV doc pm:Value) (an:Option Addr) (cdv ct:Value) (osl:Array (Option Value)),
  fd=fnOf x qual (Xb9 st) (Xbn st) (Xaf st) .none kV doc pm an cdv ct/\K.lookup f=some ⟨oc,od,.func fd,osl⟩/\codeIn K cdv qual=true
 kp:keepIn K (.ref f)=true
section
variable {P:Program}{w:World}{K:Frag}{mg:Str->Option Value}{base:Heap}
theorem Fun.ok {x qual:Str}{st:Stmt}{f:Addr}{fd:FuncData}{N ps:List Str}{k:Nat}{sp:Sp}(F:Fun K x qual st f fd)(S:FnScope N ps (Xaf st))(len:∀vs H Q E,sp vs H Q E->vs.length=ps.length)
  (hbody:∀(cdv:Value) (A:Around) (outer:List Env) (s:Shared) (H:Hp) (vs:List V) (Q:VK) (E:XK),Room k (A.deeper (envOfC qual (Xaf st) s.heap.objs.size f cdv))->sp vs H Q E->
   ∃t,PSs (Xvd CX0 P w K mg base N qual (Xaf st) f cdv A outer s H E).nox (Xbn st) t/\t {nx:=λ_ H'=>Q .non H',rt:=Q} (Xe0 N vs) H):FnOk P w K mg base CX0 (k+1) f fd ps sp:=by
 obtain⟨oc,od,kV,doc,pm,an,cdv,ct,osl,rfl,lk,hcd⟩:=F.ex
 refine Yll lk hcd S len λA outer s H vs Q E hr hsp=>?_
 obtain⟨t,h,q⟩:=hbody cdv A outer s H vs Q E hr hsp
 exact⟨t,h.nox,q⟩
theorem Fun.binds {x qual:Str}{st:Stmt}{f:Addr}{fd:FuncData}{ps:List Str}(F:Fun K x qual st f fd)
  (h:∀(kV doc pm:Value) (an:Option Addr) (cdv ct:Value) (us:List Value),us.length=ps.length->bindArgs (fnOf x qual (Xb9 st) (Xbn st) (Xaf st) .none kV doc pm an cdv ct) ⟨us,[]⟩=pure (ps.zip us)):Xk6 K fd ps []:=by
 obtain⟨oc,od,kV,doc,pm,an,cdv,ct,osl,rfl,lk,hcd⟩:=F.ex
 exact .all (h kV doc pm an cdv ct)
theorem Ybq {x qual:Str}{st:Stmt}{f:Addr}{oc:Value}{od an:Option Addr}{osl:Array (Option Value)}{kV doc pm cdv ct:Value}(l:K.lookup f=some ⟨oc,od,.func (fnOf x qual (Xb9 st) (Xbn st) (Xaf st) .none kV doc pm an cdv ct),osl⟩)
  (c:codeIn K cdv qual=true) (k:keepIn K (.ref f)=true):Fun K x qual st f (fnOf x qual (Xb9 st) (Xbn st) (Xaf st) .none kV doc pm an cdv ct):=⟨⟨oc,od,kV,doc,pm,an,cdv,ct,osl,rfl,l,c⟩,k⟩
end
section
variable {X:Cx}
theorem pv (i:Nat){x:Str}{pos:Pos}(hN:X.N[i]?=some x:=by rfl)(hv:Vis X.env.scope x:=by first |exact Or.inl rfl |exact Or.inr (Or.inl rfl) |exact Or.inr (Or.inr rfl))(hd:(x==("__debug__":Str))=false:=by decide)
  (hcd:(x==("__classdict__":Str))=false:=by decide):PE X (.Name x pos) (Xm7 i):=Yki hN hv hd hcd
end
theorem Ypo {A B:Prop}(h:B):if false=true then A else B:=by
 rw[if_neg Bool.false_ne_true]
 exact h
theorem Yij {A B:Prop}(h:A):if true=true then A else B:=by
 rw[if_pos rfl]
 exact h
def Xbi (H H':Hp):Prop:=∀b o,H b=some o->H' b=some o
theorem Xbi.refl (H:Hp):Xbi H H:=λ_ _ h=>h
theorem Xbi.trans {H H1 H2:Hp}(a:Xbi H H1)(b:Xbi H1 H2):Xbi H H2:=λc o h=>b c o (a c o h)
theorem Xbi.free {H H':Hp}(e:Xbi H H'){l:Addr}(h:H' l=Option.none):H l=Option.none:=by
 cases q:H l with
 |none=>rfl
 |some o=>
  rw[e l o q]at h
  cases h
theorem Xbi.seq {K:Frag}{H H':Hp}{a:Addr}{xs:List V}(e:Xbi H H')(h:SqL K H a xs):SqL K H' a xs:=by
 rcases h with (h | ⟨o,h⟩) |h
 .exact .inl (.inl (e _ _ h))
 .exact .inl (.inr ⟨o,e _ _ h⟩)
 .exact .inr h
end L2
set_option maxHeartbeats 4000000
namespace L2
open PySem PySem.Spec PyProof.Rows
structure DefAt (K:Frag) (mg:Str->Option Value) (x:Str) (st:Stmt) (f:Addr) (fd:FuncData):Prop where
 fn:Fun K x x st f fd
 here:mg x=some (.ref f)
structure Cal (P:Program) (w:World) (K:Frag) (mg:Str->Option Value) (base:Heap) (x:Str) (k:Nat) (ps:List Str) (sp:Sp):Prop where
 ex:∃f fd,FnOk P w K mg base CX0 k f fd ps sp/\mg x=some (.ref f)/\keepIn K (.ref f)=true/\Xk6 K fd ps []
theorem Cal.of {P:Program}{w:World}{K:Frag}{mg:Str->Option Value}{base:Heap}{x:Str}{st:Stmt}{f:Addr}{fd:FuncData}{N ps:List Str}{k:Nat}{sp:Sp}(D:DefAt K mg x st f fd)(S:FnScope N ps (Xaf st))
  (hb:∀(kV doc pm:Value) (an:Option Addr) (cdv ct:Value) (us:List Value),us.length=ps.length->bindArgs (fnOf x x (Xb9 st) (Xbn st) (Xaf st) .none kV doc pm an cdv ct) ⟨us,[]⟩=pure (ps.zip us))
  (len:∀vs H Q E,sp vs H Q E->vs.length=ps.length)
  (hbody:∀(cdv:Value) (A:Around) (outer:List Env) (s:Shared) (H:Hp) (vs:List V) (Q:VK) (E:XK),Room k (A.deeper (envOfC x (Xaf st) s.heap.objs.size f cdv))->sp vs H Q E->
   ∃t,PSs (Xvd CX0 P w K mg base N x (Xaf st) f cdv A outer s H E).nox (Xbn st) t/\t {nx:=λ_ H'=>Q .non H',rt:=Q} (Xe0 N vs) H):Cal P w K mg base x (k+1) ps sp:=
 ⟨f,fd,D.fn.ok S len hbody,D.here,D.fn.kp,D.fn.binds hb⟩
theorem Xa0 {X:Cx}{x:Str}{k:Nat}{ps:List Str}{sp:Sp}{e:Expr}{es:List Expr}{t:TA}{p pos:Pos}(C:Cal X.prog X.w X.K X.mg X.base x k ps sp)(hr:Room k X.A)(hg:Gl X x)(ha:PA X (e::es) t)
  (hdb:(x==("__debug__":Str))=false:=by decide) (he:starEach (e::es) X.env=(false,eval e X.env)::starEach es X.env:=by rfl) (hpl:(backTo pos (starEach es X.env)).any (·.1)=false:=by rfl):
  PE X (.Call (.Name x p) (e::es) [] pos) (Xt2 sp [] E0 t):=by
 obtain⟨f,fd,F,hm,hk,hb⟩:=C.ex
 exact Yak F hr hg hm hk hb .nil Xxu ha hdb he hpl
def spL (n:Nat)(R:List V->Hp->VK->Prop):Sp:=λvs H Q _=>vs.length=n/\R vs H Q
structure Blt (mg:Str->Option Value):Prop where
 len:mg "len"=none
 range:mg "range"=none
 max:mg "max"=none
 min:mg "min"=none
 isinstance:mg "isinstance"=none
 int:mg "int"=none
 bool:mg "bool"=none
 tuple:mg "tuple"=none
 list:mg "list"=none
 all:mg "all"=none
 zip:mg "zip"=none
 reversed:mg "reversed"=none
theorem Xbi.new {H:Hp}{p:Addr}{o:HO}(h:H p=none):Xbi H (upd H p o):=λb u e=>by rw[Xcp (Xe9 e h)];exact e
section
variable {X:Cx}{e:Expr}{es:List Expr}{te:TE}{t:TA}{pos:Pos}
def Yjh (t:TA):TE:=λY H Q=>t Y H λxs H1=>xs.length<=sizeLine/\∀p H',H1 p=none->Xbi H1 H'->H' p=some (.tup xs)->Q (.ref p) H'
def Yjo (t:TA):TE:=λY H Q=>t Y H λxs H1=>xs.length<=sizeLine/\∀p H',H1 p=none->Xbi H1 H'->H' p=some (.lst xs)->Q (.ref p) H'
theorem Xbd {x1}(h:PA X es t):PE X (.Tuple es x1 pos) (Yjh t):=by
 intro pins s Y H Q I hq
 refine wpAny_Tuple_spliced (thn (h pos pins s Y H _ I hq) λus s1 ⟨xs,H1,I1,r,z,q⟩=>⟨by rw[<- r.length];exact z,?_⟩)
 have hf:H1 s1.heap.objs.size=none:=I1.hok.fresh (Nat.le_refl _)
 refine⟨.ref s1.heap.objs.size,upd H1 s1.heap.objs.size (.tup xs),I1.laid (t':=s1.toks) (λb u e=>get?_push_of_some _ e) (Nat.le_refl _) ?_,rfl,q _ _ hf (Xbi.new hf) Xa3⟩
 exact⟨z,us,r,⟨_,get?_push_size _ rfl,rfl,_,rfl⟩⟩
theorem Xb8 (h:PA X es t):PE X (.List es pos) (Yjo t):=by
 intro pins s Y H Q I hq
 refine wpAny_List_spliced (thn (h pos pins s Y H _ I hq) λus s1 ⟨xs,H1,I1,r,z,q⟩=>⟨by rw[<- r.length];exact z,?_⟩)
 have hf:H1 s1.heap.objs.size=none:=I1.hok.fresh (Nat.le_refl _)
 refine⟨.ref s1.heap.objs.size,upd H1 s1.heap.objs.size (.lst xs),I1.laid (t':=s1.toks) (λb u e=>get?_push_of_some _ e) (Nat.le_refl _) ?_,rfl,q _ _ hf (Xbi.new hf) Xa3⟩
 exact⟨z,us,0,r,get?_push_size _ rfl⟩
end
theorem Yik {c:Bool}{A B:Prop}(hc:c=false)(h:B):if c=true then A else B:=by
 rw[hc];exact Ypo h
def Ymm (lo c:Int)(n:Nat):It:=⟨λi _=>i<n,λi H x H'=>H'=H/\x = .int (lo+i*c),λi _=>n<=i⟩
theorem Xm3 {P:Program}{w:World}{K:Frag}{tg:Expr}(it:Addr)(lo c:Int)(n:Nat):Turn P w K tg (Ymm lo c n) [it] it (λi h=>IsRangeIter h it (lo+(i:Nat)*c) ((n:Int)-(i:Nat)) c) where
 mem:=by simp
 obj := λi h st b hb=>by
  have e:b=it:=by simpa using hb
  subst e
  exact⟨_,st,λv z=>by
   have z':Data.fields _=Data.cell v:=z
   cases z'⟩
 keep:=λi h h' st k=>k it (by simp) _ st
 item:=by
  intro X hP hw hK hc i pins s Y H E I hf st hg
  subst hP hw hK
  obtain⟨f0,f1,f2,f3,f4,f5⟩:=hf it (by simp)
  have W:=Walks.range (prog:=X.prog) (w:=X.w) (I.ok.hd hc) it lo c n
  refine W.item i s _ _ hg st λv h' tk hv st' kk=>?_
  obtain⟨t,rfl⟩:=hv
  have I1:Inv X pins Y H {s with heap:=h',toks:=tk}:=I.turned (λb o hb e=>kk b o (by simpa using hb) e) f0 f1 f3 f4 f5
  exact⟨_,rfl,Xtc (s:={s with heap:=h',toks:=tk}) (n := "range_iterator") st' rfl rfl (by decide) ⟨.int (lo+i*c),H,I1,⟨t,rfl⟩,⟨rfl,rfl⟩,st',λb hb=>(hf b hb).1⟩⟩
 done:=by
  intro X hP hw hK hc i pins s Y H E I hf st hg
  subst hP hw hK
  obtain⟨f0,f1,f2,f3,f4,f5⟩:=hf it (by simp)
  exact wpAny_pyNext_range_end (I.ok.hd hc) st (by have:n<=i:=hg;omega) λh' eb=>⟨rfl,I.turned (t':=s.toks) (λb o hb e=>eb b o hb e) f0 f1 f3 f4 f5⟩
 self:=λ_ _ _ _ _ st h=>wpAny_pyIter_rangeiter st h
theorem Xxe {a b c:Int}(ha : -(2^61)<=a)(ha':a<2^61)(hb : -(2^61)<=b)(hb':b<2^61)(hc:0<c)(hc':c<2^61):Builtin.Range.small a b c=true:=by
 have h1:0<=Builtin.Range.rangeSize a b c/\Builtin.Range.rangeSize a b c<=2^62:=by
  unfold Builtin.Range.rangeSize
  rw[if_pos (show c > 0 from hc)]
  split
  .have e1:(b-a-1) / c<=b-a-1:=Int.ediv_le_self _ (by omega)
   have e2:0<=(b-a-1) / c:=ediv_nonneg (by omega) (by omega)
   omega
  .omega
 unfold Builtin.Range.small
 generalize Builtin.Range.rangeSize a b c=z at h1
 simp only[Builtin.Range.rangeFitsLong,and_eq_true,Bool.or_eq_true,decide_eq_true_eq,beq_iff_eq,show c > 0 from hc,if_true]
 omega
section
variable {X:Cx}{tg:Expr}
def Xhs (i j c:Int):Nat:=(Builtin.Range.rangeSize i j c).toNat
def Ylf (ta:TA):TI:=λY H R=>ta Y H λvs H1=>∃i j c:Int,vs=[.int i,.int j,.int c]/\(-(2^61)<=i/\i<2^61/\-(2^61)<=j/\j<2^61/\0<c/\c<2^29)/\R (Ymm i c (Xhs i j c)) H1
theorem Xii {a b d:Expr}{ta:TA}{p pos:Pos}(hg:Gl X "range")(hm:X.mg "range"=none)(ha:PA X [a,b,d] ta)(hs:starEach [a,b,d] X.env=(false,eval a X.env)::starEach [b,d] X.env:=by rfl)
  (hpl:(backTo pos (starEach [b,d] X.env)).any (·.1)=false:=by rfl):
  PI X tg (.Call (.Name "range" p) [a,b,d] [] pos) (Ylf ta):=by
 intro pins s Y H R I h
 refine Call_ (Xgn I hg hm boot_range (PyProof.Rows.callWith_type1 (thn (ha pos pins s Y H _ I h) λus s1 ⟨vs,H1,I1,r1,q1⟩=>?_) hs hpl))
 obtain⟨i,j,c,e,⟨q1,q2,q3,q4,q5,q6⟩,q⟩:=q1
 subst e
 cases r1 with
 |cons r rr =>
  cases rr with
  |cons r' rr=>
   cases rr with
   |cons r'' rr=>
    cases rr
    obtain⟨t,rfl⟩:=r
    obtain⟨t',rfl⟩:=r'
    obtain⟨t'',rfl⟩:=r''
    refine PySem.call_range_3 (by omega) ?_ (.inl (PyProof.noPylong_small (by omega)))
    refine wpAny_pyIter_range (IsRange.new ..) (Xxe q1 q2 q3 q4 q5 (by omega)) ?_
    have I2:Inv X pins Y H1 {s1 with heap:=s1.heap.push {cls:=.type "range",data:=.fields #[.int i t,.int j t',.int c t'']},toks:=s1.toks}:=I1.kept λb o e=>get?_push_of_some _ e
    refine⟨(s1.heap.push {cls:=.type "range",data:=.fields #[.int i t,.int j t',.int c t'']}).objs.size,[(s1.heap.push {cls:=.type "range",data:=.fields #[.int i t,.int j t',.int c t'']}).objs.size],_,_,H1,rfl,
     I2.kept (t':=s1.toks) λb o e=>get?_push_of_some _ e,Xm3 _ i c (Xhs i j c),?_,λb hb=>?_,q⟩
    .have e1:i+((0:Nat):Int)*c=i:=by simp
     have e2:((Xhs i j c:Nat):Int)-((0:Nat):Int)=Builtin.Range.rangeSize i j c:=by
      have z:0<=Builtin.Range.rangeSize i j c:=by
       unfold Builtin.Range.rangeSize
       rw[if_pos (show c > 0 from q5)]
       split
       .have e2:0<=(j-i-1) / c:=ediv_nonneg (by omega) (by omega)
        omega
       .omega
      unfold Xhs;omega
     show IsRangeIter _ _ (i+((0:Nat):Int)*c) (((Xhs i j c:Nat):Int)-((0:Nat):Int)) c
     rw[e1,e2]
     exact get?_push_size _ rfl
    .have e:b=(s1.heap.push {cls:=.type "range",data:=.fields #[.int i t,.int j t',.int c t'']}).objs.size:=by simpa using hb
     subst e
     exact I2.fpOk (Nat.le_refl _) (I2.hok.fresh (Nat.le_refl _))
end
section
variable {X:Cx}
theorem Xcd.at {xs:List V}{its:List Value}(r:Xcd xs its){j:Nat}(h:j<its.toArray.size):∃x,xs[j]?=some x/\Xd3 x its.toArray[j]:=by
 have hl:=r.length
 have hj:j<xs.length:=by rw[size_toArray]at h;omega
 obtain⟨u,hu,ru⟩:=r.get (i:=j) (x:=xs[j]) (by simp[hj])
 refine⟨xs[j],by simp[hj],?_⟩
 have e:its.toArray[j]=u:=by
  have:its[j]?=some its.toArray[j]:=by simp at h ⊢<;>try exact h
  rw[this]at hu;exact Option.some.inj hu
 rw[e];exact ru
end
def Xoi (scope:Scope)(env:Env):List (Str×Addr):=((scope.names.filter λx=>x.2 == .free).map λx=>(x.1,(env.cells.lookup x.1).getD 0)).reverse
theorem Xhj (env:Env):∀(l:List (Str×NameKind)) (acc:List (Str×Addr)),(∀x∈l,x.2 = .free->∃c,env.cells.lookup x.1=some c)->
  (forIn l acc (λ(x:Str×NameKind) (r:List (Str×Addr))=>(match x with | (name,kind)=>if (kind==NameKind.free)=true then do let a <- cellOf env name;pure (ForInStep.yield ((name,a)::r)) else pure (ForInStep.yield r):Sem (ForInStep (List (Str×Addr)))))) =
   (pure (((l.filter λx=>x.2 == .free).map λx=>(x.1,(env.cells.lookup x.1).getD 0)).reverse++acc):Sem (List (Str×Addr)))
 | [],acc,_=>by simp
 | (n,k)::l,acc,h=>by
  rw[forIn_cons]
  by_cases hk:k = .free
  .subst hk
   obtain⟨c,hc⟩:=h (n,.free) mem_cons_self rfl
   have hc':env.cells.lookup n=some c:=hc
   have ih:=Xhj env l ((n,c)::acc) λx hx=>h x (mem_cons_of_mem _ hx)
   have e:cellOf env n=pure c:=by unfold cellOf;rw[hc']
   simp only[beq_self_eq_true,if_true,e,pure_bind]
   rw[ih]
   simp[hc']
  .have hb:(k==NameKind.free)=false:=by simpa using hk
   have ih:=Xhj env l acc λx hx=>h x (mem_cons_of_mem _ hx)
   simp only[hb,false_eq_true,if_false,pure_bind]
   rw[ih]
   simp[hb]
theorem Xom {scope:Scope}{env:Env}(h:∀x∈scope.names,x.2 = .free->∃c,env.cells.lookup x.1=some c):closureFor scope env=pure (Xoi scope env):=by
 have:=Xhj env scope.names [] h
 unfold closureFor Xoi
 rw[append_nil]at this
 simp only[bind_pure]
 exact this
theorem Xmb {scope:Scope}{env:Env}(x:Str):(Xoi scope env).lookup x=if (scope.names.any λy=>y.1==x && y.2 == .free) then some ((env.cells.lookup x).getD 0) else none:=by
 have key:∀(l:List (Str×NameKind)),((l.filter λx=>x.2 == .free).map λx=>(x.1,(env.cells.lookup x.1).getD 0)).lookup x=if (l.any λy=>y.1==x && y.2 == .free) then some ((env.cells.lookup x).getD 0) else none:=by
  intro l
  induction l with
  |nil=>rfl
  |cons p l ih=>
   obtain⟨n,k⟩:=p
   by_cases hk:(k==NameKind.free)=true
   .rw [filter_cons,if_pos (show ((n,k).2==NameKind.free)=true from hk),map_cons,lookup_cons,ih,List.any_cons]
    by_cases hn:n=x
    .subst hn;simp[hk]
    .have h1:(x==n)=false:=by simpa using λe=>hn e.symm
     have h2:(n==x)=false:=by simpa using hn
     simp[h1,h2]
   .have hk':(k==NameKind.free)=false:=by simpa using hk
    rw[filter_cons,if_neg (show ¬ ((n,k).2==NameKind.free)=true from hk),ih,List.any_cons]
    simp[hk']
 have rev:(Xoi scope env)=((scope.names.reverse.filter λx=>x.2 == .free).map λx=>(x.1,(env.cells.lookup x.1).getD 0)):=by
  unfold Xoi
  rw[<- map_reverse,<- List.filter_reverse]
 rw[rev,key,List.any_reverse]
theorem Xtn {prog:Program}{w:World}{A:Around}{R:Result->Shared->Prop}{s:Shared}{elt target iter:Expr}{scope:Scope}{pos:Pos}{it acc:Value}{env:Env}(I:Nat->Shared->Prop)
  (turn : ∀n s,I n s->wpAny (model prog w) A (pyNext it) (λr s₁=>match r with
   |none=>R (.ok .next) s₁
   |some v=>wpAny (model prog w) A (letOwnedTupleGo target it v) (λ_ s₂=>wpAny (model prog w) A (assign target env v) (λ_ s₃=>wpAny (model prog w) A (eval elt env) (λx s₄=>
     wpAny (model prog w) A (call (.builtin "list.append") [acc,x]) (λ_ s₅=>∃m,m<n/\I m s₅) (λ_ _=>False) s₄) (λ_ _=>False) s₃) (λ_ _=>False) s₂) (λ_ _=>False) s₁) (λ_ _=>False) s)
  (n:Nat) (h:I n s):codeAny (model prog w) A (.compLoop (.ListComp elt [⟨target,iter,[],0⟩] scope pos) 0 it acc env) R s:=by
 refine codeAny_loop rfl I (λn s hI=>?_) n h
 show wpAny _ A ((compTurn (.ListComp elt [⟨target,iter,[],0⟩] scope pos) 0 it acc env).onRaise (λx=>do noteFrame x env;theTreesLotGoes x)) _ _ s
 refine wpAny_noted ?_
 rw[compTurn_list1]
 refine wpAny_bind (wpAny_standAt (wpAny_bind (wpAny_mono (turn n s hI) (λr s₁ h₁=>?_) λ_ _ f=>f.elim)))
 cases r with
 |none=>exact wpAny_pure h₁
 |some v=>
  refine wpAny_bind (wpAny_mono h₁ (λ_ s₂ h₂=>?_) λ_ _ f=>f.elim)
  exact wpAny_bind (wpAny_mono h₂ (λ_ s₃ h₃=>wpAny_bind (wpAny_bind (wpAny_mono h₃ (λx s₄ h₄=>wpAny_bind (wpAny_mono h₄ (λ_ s₅ h₅=>wpAny_pure (wpAny_pure ⟨rfl,h₅⟩)) λ_ _ f=>f.elim)) λ_ _ f=>f.elim))) λ_ _ f=>f.elim)
theorem Xjj {scope:Scope}{env:Env}(x:Str):(relabel scope env).names.lookup x=(scope.names.lookup x).map λk=>if (k==NameKind.free && env.scope.kind == .function && env.kindOf x==some .cell)=true then NameKind.cell else k:=by
 have key:∀l:List (Str×NameKind),(l.map λ(n,k)=>if (k==NameKind.free && env.scope.kind == .function && env.kindOf n==some .cell) then (n,NameKind.cell) else (n,k)).lookup x =
   (l.lookup x).map λk=>if (k==NameKind.free && env.scope.kind == .function && env.kindOf x==some .cell)=true then NameKind.cell else k:=by
  intro l
  induction l with
  |nil=>rfl
  |cons p l ih=>
   obtain⟨n,k⟩:=p
   rw[map_cons]
   by_cases hn:x=n
   .subst hn
    by_cases hc:(k==NameKind.free && env.scope.kind == .function && env.kindOf x==some .cell)=true
    .simp only[hc,if_true,lookup_cons,beq_self_eq_true,map_some]
    .simp only[if_neg hc,lookup_cons,beq_self_eq_true,map_some]
   .have hb:(x==n)=false:=by simpa using hn
    by_cases hc:(k==NameKind.free && env.scope.kind == .function && env.kindOf n==some .cell)=true
    .simp only[hc,if_true,lookup_cons,hb];exact ih
    .simp only[if_neg hc,lookup_cons,hb];exact ih
 exact key scope.names
def Xrn (ix:List (Option Nat))(Y:St):St:=ix.map λo=>o.bind λi=>(Y[i]?).join
def Xd1 (X:Cx)(scope:Scope):List Str->List (Option Nat)->Prop
 | [],[]=>True
 |_::N,none::ix=>Xd1 X scope N ix
 |x::N,some i::ix=>(X.N[i]?=some x/\scope.names.lookup x=some .free/\(X.env.kindOf x=some .cell∨X.env.kindOf x=some .free))/\Xd1 X scope N ix
 |_,_=>False
theorem Xd1.get {X:Cx}{scope:Scope}:∀{N:List Str} {ix:List (Option Nat)},Xd1 X scope N ix->N.length=ix.length/\∀(j i:Nat),ix[j]?=some (some i)->
  ∃x,N[j]?=some x/\X.N[i]?=some x/\scope.names.lookup x=some .free/\(X.env.kindOf x=some .cell∨X.env.kindOf x=some .free)
 | [],[],_=>⟨rfl,λj i h=>by simp at h⟩
 |x::N,none::ix,h=>by
  obtain⟨h1,h2⟩:=Xd1.get (show Xd1 X scope N ix from h)
  refine⟨by simp[h1],λj i e=>?_⟩
  cases j with
  |zero=>simp at e
  |succ j=>simpa using h2 j i (by simpa using e)
 |x :: N,some i'::ix,h=>by
  obtain⟨h0,h⟩:=(show _/\Xd1 X scope N ix from h)
  obtain⟨h1,h2⟩:=Xd1.get h
  refine⟨by simp[h1],λj i e=>?_⟩
  cases j with
  |zero=>
   simp at e
   subst e
   exact⟨x,by simp,h0⟩
  |succ j=>simpa using h2 j i (by simpa using e)
 | [],_::_,h=>h.elim
 |_::_,[],h=>by cases h
structure BlkScope (outer scope:Scope):Prop where
 kind:scope.kind = .function
 cell:∀y∈scope.names,y.2≠.cell
 free:∀y∈scope.names,y.2 = .free->outer.names.lookup y.1=some .cell∨outer.names.lookup y.1=some .free
 names:∀y∈scope.names,y.2 = .local->scope.names.lookup y.1=some .local
abbrev Cx.blk (X:Cx)(scope:Scope)(N:List Str)(fp:List Addr)(s:Shared)(H:Hp):Cx:=
 {X with N:=N,s₀:=s,H₀:=H,env:=compEnvC scope (Xoi scope X.env) s.heap.objs.size X.env,outer:=X.stack,ex:=fp,fn:=λ_=>false,pn:=[],xe:=λ_ _=>False}
section
variable {X:Cx}{pins:List (Addr×Obj)}{Y:St}{H:Hp}{s:Shared}{scope:Scope}{N:List Str}{ix:List (Option Nat)}{fp:List Addr}
theorem Xi7 (ok:X.Ok)(S:BlkScope X.env.scope scope){x:Str}{c:Addr}(h:(Xoi scope X.env).lookup x=some c):X.env.cells.lookup x=some c:=by
 rw[Xmb]at h
 split at h
 .rename_i ha
  obtain⟨y,hy,e⟩:=any_eq_true.mp ha
  rw[and_eq_true,beq_iff_eq,beq_iff_eq]at e
  obtain⟨e1,e2⟩:=e
  subst e1
  obtain⟨c',hc'⟩:=ok.has y.1 (S.free y hy e2)
  rw[hc']at h ⊢
  exact h
 .cases h
theorem Xw5 (ok:X.Ok){x:Str}(h:scope.names.lookup x=some .free)(hk:X.env.kindOf x=some .cell∨X.env.kindOf x=some .free):∃c,(Xoi scope X.env).lookup x=some c/\X.env.cells.lookup x=some c:=by
 obtain⟨c,hc⟩:=ok.has x hk
 refine⟨c,?_,hc⟩
 rw[Xmb,if_pos,hc]
 .rfl
 .exact any_eq_true.mpr ⟨(x,.free),PySem.mem_of_lookup h,by simp⟩
theorem Inv.blkOk (I:Inv X pins Y H s)(S:BlkScope X.env.scope scope)(hf:∀b∈fp,Xrp X pins H b)(hlt:∀b∈fp,b<s.heap.objs.size):(X.blk scope N fp s H).Ok where
 mod:=I.ok.mod
 kind:=S.kind
 glob:=I.ok.glob
 blt:=I.ok.blt
 above:=Nat.le_refl _
 inj:=λx y c h1 h2=>I.ok.inj x y c (Xi7 I.ok S h1) (Xi7 I.ok S h2)
 has := λx hx=>by
  have hx':(relabel scope X.env).names.lookup x=some .cell∨(relabel scope X.env).names.lookup x=some .free:=hx
  rw[Xjj]at hx'
  cases e:scope.names.lookup x with
  |none=>rw[e]at hx';simp at hx'
  |some k=>
   have hm:=PySem.mem_of_lookup e
   have hk:k = .free:=by
    by_cases hk:k = .free
    .exact hk
    .exfalso
     have hb:(k==NameKind.free)=false:=by simpa using hk
     have hc:k≠.cell:=S.cell _ hm
     have e2:(if (k==NameKind.free && X.env.scope.kind == .function && X.env.kindOf x==some .cell)=true then NameKind.cell else k)=k:=if_neg (by rw[hb,Bool.false_and,Bool.false_and];exact Bool.false_ne_true)
     rw[e,map_some,e2]at hx'
     rcases hx' with z |z
     .exact hc (Option.some.inj z)
     .exact hk (Option.some.inj z)
   subst hk
   obtain⟨c,h1,_⟩:=Xw5 I.ok e (S.free _ hm rfl)
   exact⟨c,h1⟩
 cab:=λx c h _=>by cases h
 hd:=I.ok.hd
 frames:=I.ok.frames
 stk:=.inl rfl
 exf:=λb hb=>⟨ne_of_lt (hlt b hb),λx c h=>(hf b hb).2.2.2.2.1 x c (Xi7 I.ok S h)⟩
 bs:=I.bs
 bsz:=le_trans I.ok.bsz I.sz
 noex:=λb o e hb=>by
  rcases (hf b hb).2.2.2.1 with z |z
  .exact I.ok.noex b o e z
  .exact absurd (lt_of_lt_of_le (lt_size e) (le_trans I.ok.bsz z)) (lt_irrefl _)
 exfs:=λb hb h=>by
  rcases mem_cons.mp (I.stkSub b h) with z |z
  .exact (hf b hb).2.1 z
  .exact (hf b hb).2.2.1 z
 funs:=I.stack
 frf:=I.stkFree
theorem Inv.blk {h₁:Heap}{m:Str->Option Value}{o:Obj}{t:Nat}(I:Inv X pins Y H s)(S:BlkScope X.env.scope scope)(cap:Xd1 X scope N ix)(hf:∀b∈fp,Xrp X pins H b)(hlt:∀b∈fp,b<s.heap.objs.size)
  (hns:h₁.Ns s.heap.objs.size m) (hsb:Heap.SameBut s.heap.objs.size (s.heap.push o) h₁):Inv (X.blk scope N fp s H) [] (Xrn ix Y) H {s with heap:=h₁,toks:=t}:=by
 have keep:∀b o,s.heap.get? b=some o->h₁.get? b=some o:=λb o e=>hsb.extBut b o (ne_of_lt (lt_size e)) (get?_push_of_some _ e)
 obtain⟨hl,hcap⟩:=cap.get
 refine⟨I.blkOk S hf hlt,rfl,I.bare,Un.kept keep,⟨m,hns,λj x v e1 e2 e3=>?_⟩,λx c e=>?_,I.hok.fresh (Nat.le_refl _),λx c e=>I.freeC x c (Xi7 I.ok S e),λp hp=>absurd (show p∈([]:List (Addr×Obj)) from hp) (by simp),I.hok.kept keep,by unfold Xrn;rw[length_map];exact hl.symm⟩
 .obtain ⟨i,h1,h2⟩:∃i,ix[j]?=some (some i)/\Y[i]?=some (some v):=by
   unfold Xrn at e2
   rw[getElem?_map]at e2
   cases q:ix[j]? with
   |none=>rw[q]at e2;cases e2
   |some o=>
    rw[q]at e2
    cases o with
    |none=>simp at e2
    |some i=>
     refine⟨i,rfl,?_⟩
     cases q2:Y[i]? with
     |none=>simp[q2]at e2
     |some o2=>simp[q2]at e2;rw[e2]
  obtain⟨y,n1,n2,n3,n4⟩:=hcap j i h1
  have hxy:x=y:=by rw[e1]at n1;exact Option.some.inj n1
  subst hxy
  obtain⟨m',hn',hl'⟩:=I.loc
  have vis:Vis X.env.scope x:=by rcases n4 with k |k;exact .inr (.inl k);exact .inr (.inr k)
  obtain⟨u,r,l⟩:=hl' i x v n2 h2 vis
  refine⟨u,r,.inr ⟨?_,?_⟩⟩
  .show (relabel scope X.env).names.lookup x=some .cell∨(relabel scope X.env).names.lookup x=some .free
   rw[Xjj,n3]
   by_cases hc:(NameKind.free==NameKind.free && X.env.scope.kind == .function && X.env.kindOf x==some .cell)=true
   .left;simp only[map_some,if_pos hc]
   .right;simp only[map_some,if_neg hc]
  .obtain ⟨c,c1,c2⟩:=Xw5 I.ok n3 n4
   refine⟨c,c1,?_⟩
   rcases l with⟨hk,_⟩ | ⟨_,c',hc',z⟩
   .exfalso
    rcases n4 with k |k
    .rw [hk]at k;cases k
    .rw [hk]at k;cases k
   .rw [c2]at hc';cases hc'
    obtain⟨ob,ho,hd⟩:=z
    exact⟨ob,keep _ _ ho,hd⟩
 .obtain ⟨v,ob,ho,hd⟩:=I.cell x c (Xi7 I.ok S e)
  exact⟨v,ob,keep _ _ ho,hd⟩
theorem Inv.unblk {pins':List (Addr×Obj)}{Y':St}{H':Hp}{s':Shared}(I:Inv X pins Y H s)(hf:∀b∈fp,Xrp X pins H b)(J:Inv (X.blk scope N fp s H) pins' Y' H' s'):Inv X pins Y H' s':=
 I.call' (ch:=fp) J.os J.base J.hok J.bare λb hb=>⟨(hf b hb).2.2.2.1,(hf b hb).2.1,(hf b hb).2.2.2.2.1,(hf b hb).2.2.2.2.2⟩
theorem Inv.frameGone {C:Addr}{h':Heap}(I:Inv X pins Y H s)(f:Xrp X pins H C)(hs:Heap.SameBut C s.heap h'):Inv X pins Y H {s with heap:=h'}:=
 I.turned (t':=s.toks) (λb o hb e=>hs.extBut b o hb e) f.1 f.2.1 f.2.2.2.1 f.2.2.2.2.1 f.2.2.2.2.2
end
def Xd4 (J:It)(D:Addr)(g:TG)(te:TE)(Y₀:St)(H₀:Hp)(fin:Hp->Prop):Prop:=
 ∃W:Nat->Nat->St->List V->Hp->Prop,(∃m,W 0 m Y₀ [] H₀)/\∀i m Y ys H,W i m Y ys H->
  (J.stop i H/\fin H)∨(ys.length<sizeLine/\J.go i H/\∀x H',J.yld i H x H'->g x Y H' λY2 H2=>te Y2 H2 λy H3=>H3 D=some (.lst ys)/\∃m',m'<m/\W (i+1) m' Y2 (ys++[y]) (upd H3 D (.lst (ys++[y]))))
def Xyy (wi:TI)(ix:List (Option Nat))(g:TG)(te:TE):TE:=λY H Q=>wi Y H λJ H1=>∀D,H1 D=none->Xd4 J D g te (Xrn ix Y) (upd H1 D (.lst [])) λH'=>Q (.ref D) H'
section
variable {X:Cx}{tg elt iter:Expr}{scope:Scope}{N:List Str}{ix:List (Option Nat)}{wi:TI}{g:TG}{te:TE}{pos:Pos}
theorem Xtm {pins:List (Addr×Obj)}{s:Shared}{Y:St}{H:Hp}{Q:VK}{RR:Value->Addr->Result->Shared->Prop}(hc:X.calm=true)(hi:PI X tg iter wi)(S:BlkScope X.env.scope scope)(cap:Xd1 X scope N ix)
  (hg:∀fp s H,PG (X.blk scope N fp s H) tg g) (he:∀fp s H,PE (X.blk scope N fp s H) elt te) (I:Inv X pins Y H s) (h:Xyy wi ix g te Y H Q)
  (hRR:∀D C H' s',Inv X pins Y H' s'->Xrp X pins H' C->(∃m,s'.heap.Ns C m)->Q (.ref D) H'->RR (.ref D) C (.ok .next) s'):
  wpAny (model X.prog X.w) X.A (eval iter X.env) (λx s₁=>wpAny (model X.prog X.w) X.A (pyIter x) (λit s₂=>wpAny (model X.prog X.w) X.A (newList []) (λacc s₃=>
   wpAny (model X.prog X.w) X.A (newFunctionEnv scope X.env.globals (Xoi scope X.env) [] X.env.qual none .none (some X.env)) (λcenv s₄=>
    codeAny (model X.prog X.w) X.A (.compStart (.ListComp elt [⟨tg,iter,[],0⟩] scope pos) 0 it acc {cenv with scope:=relabel scope X.env}) (RR acc cenv.locals) s₄) X.xe s₃) X.xe s₂) X.xe s₁) X.xe s:=by
 refine thn (hi pins s Y H _ I h) λv s1 h1=>thn h1 λitv s2 h2=>?_
 obtain⟨it,fp,tn,J,H2,e,I2,T,st2,f2,R⟩:=h2
 subst e
 refine wpAny_newObj_type (wpAny_newFunctionEnv S.cell (by intro y hy;simp at hy) (λh₁ hns₁ hsb₁=>?_) S.kind)
 dsimp only at hns₁ hsb₁ ⊢
 have I3:Inv X pins Y (upd H2 s2.heap.objs.size (.lst [])) {s2 with heap:=s2.heap.push {cls:=.type "list",data:=.seq ([]:List Value).toArray},toks:=s2.toks}:=I2.lnew .nil (zero_le _)
 have hD:H2 s2.heap.objs.size=none:=I2.fresh
 have lt2:∀b∈fp,b<s2.heap.objs.size:=λb hb=>by obtain⟨o,e,_⟩:=T.obj 0 _ st2 b hb;exact lt_size e
 obtain⟨W,⟨m0,w0⟩,turn⟩:=R s2.heap.objs.size hD
 generalize hs3:({s2 with heap:=s2.heap.push {cls:=.type "list",data:=.seq ([]:List Value).toArray},toks:=s2.toks}:Shared)=s3 at I3
 have e3:s3.heap=s2.heap.push {cls:=.type "list",data:=.seq ([]:List Value).toArray}:=by rw[<- hs3]
 have sz3:s3.heap.objs.size=s2.heap.objs.size+1:=by rw[e3,size_push]
 have f3:∀b∈fp,Xrp X pins (upd H2 s2.heap.objs.size (.lst [])) b:=λb hb=>⟨by rw[Xcp (ne_of_lt (lt2 b hb))];exact (f2 b hb).1,(f2 b hb).2⟩
 have lt3:∀b∈fp,b<s3.heap.objs.size:=λb hb=>by rw[sz3];exact Nat.lt_succ_of_lt (lt2 b hb)
 have hns₁':=hns₁
 rw[<- e3]at hns₁'
 have hsb₁':=hsb₁
 rw[<- e3]at hsb₁'
 have J0:=I3.blk (N:=N) (ix:=ix) (fp:=fp) (t:=s2.toks+([]:List (Str×Value)).length) S cap f3 lt3 hns₁' hsb₁'
 have keep1:∀b o,s2.heap.get? b=some o->h₁.get? b=some o:=λb o e=>hsb₁.extBut b o (by rw[size_push];exact ne_of_lt (Nat.lt_succ_of_lt (lt_size e))) (get?_push_of_some _ (get?_push_of_some _ e))
 have st1:tn 0 h₁:=T.keep 0 _ _ st2 λb _ o e=>keep1 b o e
 have stat:∀{H':Hp},(∀b∈fp,H' b=none)->∀b∈fp,Xrp (X.blk scope N fp s3 (upd H2 s2.heap.objs.size (.lst []))) [] H' b:=λ{H'} hn b hb=>by
  refine⟨hn b hb,ne_of_lt (lt3 b hb),λz=>?_,.inl hb,λx c e=>(f2 b hb).2.2.2.2.1 x c (Xi7 I.ok S e),λp hp=>absurd (show p∈([]:List (Addr×Obj)) from hp) (by simp)⟩
  rcases mem_cons.mp (I3.stkSub b z) with y |y
  .exact (f2 b hb).2.1 y
  .exact (f2 b hb).2.2.1 y
 have loop:∀s4:Shared,s4={s3 with heap:=h₁,toks:=s2.toks+([]:List (Str×Value)).length}->
   codeAny (model X.prog X.w) X.A (.compLoop (.ListComp elt [⟨tg,iter,[],0⟩] scope pos) 0 (.ref it) (.ref s2.heap.objs.size) (compEnvC scope (Xoi scope X.env) s3.heap.objs.size X.env)) (RR (.ref s2.heap.objs.size) s3.heap.objs.size) s4:=by
  rintro s4 rfl
  refine Xtn (λn s'=>∃i Y' ys H',Inv (X.blk scope N fp s3 (upd H2 s2.heap.objs.size (.lst []))) [] Y' H' s'/\tn i s'.heap/\(∀b∈fp,H' b=none)/\W i n Y' ys H') ?_ m0 ⟨0,_,[],_,J0,st1,λb hb=>(f3 b hb).1,w0⟩
  rintro n s' ⟨i,Y',ys,H',I',st',fr',w'⟩
  rcases turn i n Y' ys H' w' with⟨stop,fin⟩ | ⟨hy,go,step⟩
  .refine thn (T.done (X.blk scope N fp s3 (upd H2 s2.heap.objs.size (.lst []))) rfl rfl rfl hc i [] s' Y' H' _ I' (stat fr') st' stop) λr s5 ⟨hr,I5⟩=>?_
   subst hr
   obtain⟨m,hn,_⟩:=I5.loc
   exact hRR _ _ H' s5 (I3.unblk f3 I5) (I3.fpOk (Nat.le_refl _) I5.free) ⟨m,hn⟩ fin
  .refine thn (T.item (X.blk scope N fp s3 (upd H2 s2.heap.objs.size (.lst []))) rfl rfl rfl hc i [] s' Y' H' _ I' (stat fr') st' go) λr s5 ⟨u,hr,h5⟩=>?_
   subst hr
   refine thn h5 λ_ s6 ⟨x,H6,I6,r6,y6,st6,fr6⟩=>?_
   have I6':=I6.pinned (stat fr6) (T.obj _ _ st6)
   refine thn (hg fp s3 _ _ s6 Y' H6 x u _ I6' r6 (step x H6 y6)) λ_ s7 ⟨Y7,H7,I7,q7⟩=>?_
   refine thn (he fp s3 _ _ s7 Y7 H7 _ I7 q7) λyv s8 ⟨y,H8,I8,r8,hl8,m',hm',w8⟩=>?_
   refine thn (Xci _ s8 Y7 H8 (.ref s2.heap.objs.size) [y] (.ref s2.heap.objs.size) [yv] (λ_ H9=>H9=upd H8 s2.heap.objs.size (.lst (ys++[y]))) I8 rfl (.cons r8 .nil) ⟨_,ys,y,rfl,rfl,hl8,hy,rfl⟩) λ_ s9 ⟨_,H9,I9,_,e9⟩=>?_
   subst e9
   refine⟨m',hm',i+1,Y7,ys++[y],_,I9.unpinned,T.keep _ _ _ st6 λb hb o e=>(I9.pin (b,o) (mem_append_right _ (mem_append_right _ (Xi3 hb e)))).1,λb hb=>?_,w8⟩
   obtain⟨o,e,_⟩:=T.obj _ _ st6 b hb
   exact (I9.pin (b,o) (mem_append_right _ (mem_append_right _ (Xi3 hb e)))).2.1
 have fin:=loop _ rfl
 rw[<- hs3]at fin
 exact codeAny_compStart_list fin (T.self _ 0 _ _ _ st1 fin)
theorem Xw6 (S:BlkScope X.env.scope scope)(ok:X.Ok):closureFor scope X.env=pure (Xoi scope X.env):=Xom λx hx e=>ok.has x.1 (S.free x hx e)
theorem Xdy (hc:X.calm=true)(hi:PI X tg iter wi)(S:BlkScope X.env.scope scope)(cap:Xd1 X scope N ix)(hg:∀fp s H,PG (X.blk scope N fp s H) tg g)(he:∀fp s H,PE (X.blk scope N fp s H) elt te)
  (hs:∀x,foldedSetIterable iter X.env x=pure x:=by intro _;rfl):PE X (.ListComp elt [⟨tg,iter,[],0⟩] scope pos) (Xyy wi ix g te):=by
 intro pins s Y H Q I h
 rw[eval_ListComp]
 refine wpAny_comprehension_free (use:=none) rfl hs (Xw6 S I.ok) S.kind S.names (Xtm (RR:=λacc C=>compPost (model X.prog X.w) X.A X.xe none (EP X pins Y Q) acc C) hc hi S cap hg he I h λD C H' s' I' f' hn q=>?_)
 obtain⟨m,hn⟩:=hn
 exact⟨m,hn,λh' hs'=>⟨.ref D,H',I'.frameGone f' hs',rfl,q⟩⟩
theorem Xlk {i:Nat}{y:Str}{py spos:Pos}(hN:X.N.Nodup)(hiN:X.N[i]?=some y)(hy:Loc X.env.scope y)(hc:X.calm=true)(hi:PI X tg iter wi)(S:BlkScope X.env.scope scope)(cap:Xd1 X scope N ix)
  (hg:∀fp s H,PG (X.blk scope N fp s H) tg g) (he:∀fp s H,PE (X.blk scope N fp s H) elt te)
  (hsw:swapsWith (.ListComp elt [⟨tg,iter,[],0⟩] scope pos) (some (.Name y py)) spos.line X.env=pure true:=by rfl)
  (hs:∀x,foldedSetIterable iter X.env x=pure x:=by intro _;rfl) (hf:X.fn y=true∨X.env.scope.names.lookup y=some .local:=by first |exact .inl rfl |exact .inr rfl |assumption):
  PS X (.Assign [.Name y py] (.ListComp elt [⟨tg,iter,[],0⟩] scope pos) spos) (Ycr (Xyy wi ix g te) (Xu5 i)):=by
 intro pins s Y H D I h
 rw[exec_Assign_Name_used _ _ _ _ hsw]
 refine wpAny_bind (wpAny_standAt (wpAny_bind ?_))
 show wpAny _ X.A (do let _ <- comprehension (.ListComp elt [⟨tg,iter,[],0⟩] scope pos) scope X.env _ (newList []) false (eval iter X.env) (some (assign (.Name y py) X.env))) _ _ s
 refine wpAny_bind (wpAny_mono (wpAny_comprehension_free (use:=some (assign (.Name y py) X.env)) (Q:=λ_ s'=>SP X pins D .next s') rfl hs (Xw6 S I.ok) S.kind S.names
  (Xtm (RR:=λacc C=>compPost (model X.prog X.w) X.A X.xe (some (assign (.Name y py) X.env)) (λ_ s'=>SP X pins D .next s') acc C) hc hi S cap hg he I h λl C H' s' I' f' hn q=>?_)) (λ_ s' hq=>wpAny_pure (wpAny_pure hq)) λ_ _ e=>e)
 obtain⟨m,hn⟩:=hn
 show wpAny _ X.A (assign (.Name y py) X.env (.ref l)) _ _ _
 refine wpAny_assign_Name (Xrv (v:=.ref l) I' hN hiN hy rfl (λs'' I'' ⟨a,hsb,ha⟩=>?_) hf)
 have hCa:C≠a:=by
  rcases ha with z |z
  .rw [z];exact f'.2.1
  .exact Ne.symm (f'.2.2.2.2.1 y a z)
 exact⟨m,hn.sameBut hsb hCa,λh' hs'=>⟨_,H',I''.frameGone f' hs',q⟩⟩
end
section
variable {X:Cx}
set_option exponentiation.threshold 5000 in
def Yj8 (K:Frag):List V->Hp->VK->Prop:=λxs H Q=>∃(l:Addr) (ns:List Int),xs=[.ref l]/\SqL K H l (ns.map V.int)/\0<ns.length/\∀δ,δ∈ns->(∀a,a∈ns->a<=δ)->Q (.int δ) H
theorem Xts (hc:X.calm=true):Xhq X (.builtin "max") (Yj8 X.K):=by
 intro pins s Y H xs us Q I r h
 obtain⟨l,ns,rfl,hq,hne,q⟩:=h
 obtain⟨u,rfl,ru⟩:=Xhx r
 cases ru
 obtain⟨its,rv,pl,hz⟩:=I.list hq
 have hi:IntsAre its ns:=Xyb rv
 have hl:=pl.isList
 obtain⟨ys,e⟩:=hi.allInts.items
 have hns:ns=ys.toList.map (·.1):=by rw[<- hi.numsOf,<- nums_intItems,<- e]
 have hsz:0<ys.size:=by
  have h3:=hne;rw[hns,length_map,length_toList]at h3;exact h3
 rw[e]at hl
 refine max_intList (I.ok.hd hc) hl hsz λv h' tk hv hk=>?_
 obtain⟨t,rfl⟩:=intItems_at hv
 obtain⟨h1,h2⟩:=argBest_gt (numAt ys) (ys.size-1)
 refine⟨.int _,H,I.kept hk,⟨t,rfl⟩,q _ ?_ λa ha=>?_⟩
 .rw [hns,numAt_eq];exact getD_mem (by rw[length_map,length_toList];omega)
 .rw [hns]at ha
  obtain⟨j,hj,rfl⟩:=mem_getD ha
  rw[length_map,length_toList]at hj
  rw[<- numAt_eq];exact h2 j (by omega)
def Ykc (K:Frag):V->V->Hp->VK->Prop:=λx y H Q=>∃p xs i v,x = .ref p/\y = .int i/\SqL K H p xs/\0<=i/\xs[i.toNat]?=some v/\Q v H
theorem Xtd:Yo8 X (Ykc X.K):=by
 intro pins s Y H o i ov iv Q I ro ri h
 obtain⟨p,xs,k,v,rfl,rfl,hq,h0,hx,q⟩:=h
 cases ro
 obtain⟨t,rfl⟩:=ri
 obtain⟨its,r,pl,hz⟩:=I.list hq
 obtain⟨w',ew,rw'⟩:=r.get hx
 have hn:=Xod
 have hlt:k.toNat<xs.length:=(List.getElem?_eq_some_iff.mp hx).1
 exact wpAny_getItem_list pl.isList h0 (by omega) (by simpa using ew) ⟨v,H,I,rw',q⟩
end
section
variable {X:Cx}
theorem Xhq.imp {f:Value}{r r':List V->Hp->VK->Prop}(h:Xhq X f r)(hi:∀xs H Q,r' xs H Q->r xs H Q):Xhq X f r':=λpins s Y H xs us Q I rs q=>h pins s Y H xs us Q I rs (hi xs H Q q)
def Yfk (K:Frag):List V->Hp->VK->Prop:=λxs H Q=>∃p ys,xs=[.ref p]/\(SqL K H p ys∨SqT K H p ys)/\∀l H',H l=none->Xbi H H'->H' l=some (.lst ys)->Q (.ref l) H'
def Xz9 (K:Frag):List V->Hp->VK->Prop:=λxs H Q=>∃p ys,xs=[.ref p]/\SqL K H p ys/\∀l H',H l=none->Xbi H H'->H' l=some (.tup ys)->Q (.ref l) H'
theorem Xlx:Xhq X (.type "list") (Yfk X.K):=Xtt.imp λxs H Q ⟨p,ys,e,h,q⟩=>⟨p,ys,e,h,λl hl=>q l _ hl (Xbi.new hl) Xa3⟩
theorem Xvh:Xhq X (.type "tuple") (Xz9 X.K):=Xrf.imp λxs H Q ⟨p,ys,e,h,q⟩=>⟨p,ys,e,.inl ⟨h,λl hl=>q l _ hl (Xbi.new hl) Xa3⟩⟩
def Yoa (K:Frag):V->Option Int->Option Int->Hp->VK->Prop:=λx lo hi H Q=>∃a xs,x = .ref a/\SqL K H a xs/\∀p H',H p=none->Xbi H H'->H' p=some (.lst (Yce xs lo hi))->Q (.ref p) H'
theorem SlR.imp {r r':V->Option Int->Option Int->Hp->VK->Prop}(h:SlR X r)(hi:∀x lo hi H Q,r' x lo hi H Q->r x lo hi H Q):SlR X r':=λpins s Y H x v vl vu lo hi' sl Q I rx hs pl pu q=>h pins s Y H x v vl vu lo hi' sl Q I rx hs pl pu (hi _ _ _ _ _ q)
theorem Xmt:SlR X (Yoa X.K):=Ygt.imp λx lo hi H Q ⟨a,xs,e,h,q⟩=>⟨a,xs,e,h,λp hp=>q p _ hp (Xbi.new hp) Xa3⟩
def Yfl (K:Frag):R2:=λx y H Q=>∃a b xs ys,x = .ref a/\y = .ref b/\SqT K H a xs/\SqT K H b ys/\xs≠[]/\ys≠[]/\xs.length+ys.length<=sizeLine/\∀p H',H p=none->Xbi H H'->H' p=some (.tup (xs++ys))->Q (.ref p) H'
theorem Ydw:OpR X (binaryOp .Add) (Yfl X.K):=λpins s Y H x y v u Q I rx ry ⟨a,b,xs,ys,e1,e2,h1,h2,n1,n2,hz,q⟩=>
 Yhu pins s Y H x y v u Q I rx ry ⟨a,b,xs,ys,e1,e2,h1,h2,n1,hz,λz=>absurd z n2,λ_ p hp=>q p _ hp (Xbi.new hp) Xa3⟩
end
end L2
namespace PySem
namespace F
theorem Xn7:Manifest.owners.lookup (String.ofList ['d','e','s','r','e','v','e','r'].reverse)=some Manifest.sig_reversed:=by kernel_rfl
theorem lwrev_next:Slot "reversed" "__next__" "reversed.__next__":=
 .of (owner := "reversed") (n := "__next__") (by rw[typeLookup_type,builtinLookup_eq_fast];kernel_rfl) (by decide +kernel) (by decide +kernel) (by decide +kernel)
  (by first |exact .inl (by decide +kernel) |exact .inr (by decide +kernel)) (by rw[isSubtype_type];kernel_rfl)
theorem lwrev_entry:entryFor table "reversed.__next__"=some Builtin.«reversed.__next__»:=entryFor_of_tree (by kernel_rfl)
theorem lwrev_args (a:Value):argsOk "reversed.__next__" ⟨[a],[]⟩:=by
 unfold argsOk;rw[signature?_of (id := "reversed.__next__") (n:=['_','_','t','x','e','n','_','_']) (o:=['d','e','s','r','e','v','e','r']) (by kernel_rfl) Xn7];kernel_rfl
theorem lwrev_iter:Slot "reversed" "__iter__" "reversed.__iter__":=
 .of (owner := "reversed") (n := "__iter__") (by rw[typeLookup_type,builtinLookup_eq_fast];kernel_rfl) (by decide +kernel) (by decide +kernel) (by decide +kernel)
  (by first |exact .inl (by decide +kernel) |exact .inr (by decide +kernel)) (by rw[isSubtype_type];kernel_rfl)
theorem lwrev_iargs (a:Value):argsOk "reversed.__iter__" ⟨[a],[]⟩:=by
 unfold argsOk;rw[signature?_of (id := "reversed.__iter__") (n:=['_','_','r','e','t','i','_','_']) (o:=['d','e','s','r','e','v','e','r']) (by kernel_rfl) Xn7];kernel_rfl
theorem lwrev_ientry:entryFor table "reversed.__iter__"=some Builtin.«dict_keyiterator.__iter__»:=
 entryFor_alias (id' := "dict_keyiterator.__iter__") (by kernel_rfl) (by first |rfl |decide +kernel | (unfold String.splitOn;simp +decide [String.splitOnAux])) (by decide +kernel) (by kernel_rfl)
theorem lwrev_mro:mroOf (.type "reversed")=pure [.type "reversed",.type "object"]:=by rw[mroOf_type];kernel_rfl
theorem Xuu:typeLookup (.type "reversed") "__new__"=pure (some (.builtin "reversed.__new__")):=by rw[typeLookup_type,builtinLookup_eq_fast];kernel_rfl
theorem lwrev_made:Bind.madeBy (.type "reversed")=pure (some "reversed.__new__"):=madeBy_type lwrev_mro Xuu (by decide +kernel)
theorem lwrev_typeCall (a:Value):checkTypeCall "reversed" ⟨[a],[]⟩=pure ():=by kernel_rfl
theorem lwrev_newCall (a:Value):checkBuiltinCall "reversed.__new__" ⟨[.type "reversed",a],[]⟩=pure ():=by kernel_rfl
theorem lwrev_newEntry:entryFor table "reversed.__new__"=some Builtin.«reversed.__new__»:=entryFor_of_tree (by kernel_rfl)
theorem lwrev_plain:plainId "reversed.__new__"=true:=by decide +kernel
theorem lwrev_create:((Manifest.find? "reversed").bind (·.mro.findSome? λt=>(Manifest.find? t).bind λb=>if b.noNew then some true else if b.attrs.any (·.1 == "__new__") then some false else none)).getD false=false:=by decide +kernel
theorem lwrev_sub:isSubtype (.type "reversed") (.type "reversed")=pure true:=by rw[isSubtype_type];kernel_rfl
theorem lwrev_noRev:typeLookup (.type "tuple") "__reversed__"=pure none:=by rw[typeLookup_type,builtinLookup_eq_fast];kernel_rfl
theorem lwrev_noDict:isSubtype (.type "tuple") (.type "dict")=pure false:=by rw[isSubtype_type];kernel_rfl
end F
section
variable {prog:Program}{w:World}{A:Around}{E:Value->Shared->Prop}{s:Shared}
def Xku (t:Addr)(i:Int):Obj:={cls:=.type "reversed",data:=.fields #[.ref t,rawInt i]}
def Heap.LwRev (h:Heap)(a t:Addr)(i:Int):Prop:=h.get? a=some (Xku t i)
theorem Heap.LwRev.typeIs {a t:Addr}{i:Int}(x:s.heap.LwRev a t i):s.TypeIs (.ref a) "reversed":=⟨_,x,rfl⟩
theorem Xpa (a:Value):Builtin.SmallTypes.newClass "reversed" ⟨[.type "reversed",a],[]⟩=pure (.type "reversed",[a]):=by
 unfold Builtin.SmallTypes.newClass
 simp only[isType,F.lwrev_sub,pure_bind,Bool.not_true,false_eq_true,if_false]
theorem F.lwrev_init:Slot "reversed" "__init__" "object.__init__":=
 .of (owner := "object") (n := "__init__") (by rw[typeLookup_type,builtinLookup_eq_fast];kernel_rfl) (by decide +kernel) (by decide +kernel) (by decide +kernel)
  (by first |exact .inl (by decide +kernel) |exact .inr (by decide +kernel)) (by rw[isSubtype_type];kernel_rfl)
theorem F.lwrev_initArgs (obj a:Value):argsOk "object.__init__" ⟨[obj,a],[]⟩:=by
 first |exact F.initArgs_range_1 obj a | (unfold argsOk;kernel_rfl)
theorem F.lwrev_called:TypeCalled "reversed" "reversed.__new__" "object.__init__":=⟨by decide +kernel,F.lwrev_create,⟨_,_,F.lwrev_mro⟩,F.lwrev_made,F.lwrev_plain,F.lwrev_sub,F.lwrev_init⟩
theorem Yd7 (t:Addr)(items:Array Value):
  MeetsIn prog w (Builtin.«reversed.__new__» ⟨[.type "reversed",.ref t],[]⟩) (λA R s=>(s.heap.IsTuple t items/\items.size<=sizeLine)/\∀tk,R (.ok (.ret (.ref s.heap.objs.size))) {s with heap:=s.heap.push (Xku t ((items.size:Int)-1)),toks:=tk}):=
 .of_wp λA R s h=>by
  obtain⟨⟨ht,hz⟩,h⟩:=h
  have hT:s.TypeIs (.ref t) "tuple":=PyProof.Rows.IsTup.typeIs ht
  unfold Builtin.«reversed.__new__»
  refine wpAny_bind (wpAny_of_eq (Xpa _) ?_)
  try dsimp only
  refine wpAny_bind (wpAny_of_eq (a:=()) (by first |rfl |kernel_rfl) ?_)
  refine wpAny_bind (wpAny_of_eq (a:=()) (by first |rfl |kernel_rfl) ?_)
  try dsimp only
  refine wpAny_bind (wpAny_specialOf hT F.lwrev_noRev ?_)
  try dsimp only
  refine wpAny_bind ?_
  show wpAny _ _ (isInstance (.ref t) (.type "dict") >>= _) _ _ s
  refine wpAny_bind (wpAny_isInstance hT F.lwrev_noDict ?_)
  show wpAny _ _ (specialOf (.ref t) "__getitem__" >>= _) _ _ s
  refine wpAny_bind (wpAny_specialOf hT PyProof.Rows.slot_tuple_getitem.lookup ?_)
  show wpAny _ _ (if (["tuple.__getitem__","str.__getitem__","bytes.__getitem__","bytearray.__getitem__","memoryview.__getitem__","numpy.ndarray.__getitem__","sqlite3.Row.__getitem__"].contains "tuple.__getitem__")=true then pure true else _) _ _ s
  rw[if_pos (by decide)]
  refine wpAny_pure ?_
  show wpAny _ _ (if (!true)=true then _ else _) _ _ s
  rw[if_neg (by decide)]
  have hn:(sizeLine:Nat)<2^63:=by rw[sizeLine_eq];decide
  refine wpAny_bind (PyProof.Rows.len_tuple ht (by omega) ?_)
  refine wpAny_bind (wpAny_of_eq (a:=some (items.size:Int)) rfl ?_)
  show wpAny _ _ (Builtin.SmallTypes.newRecord (.type "reversed") [.ref t,rawInt ((items.size:Int)-1)] >>= _) _ _ _
  refine wpAny_bind ?_
  show wpAny _ _ (newObj (.type "reversed") (.fields #[.ref t,rawInt ((items.size:Int)-1)])) _ _ _
  refine wpAny_newObj_type ?_ (by size_fits)
  exact wpAny_pure ⟨_,rfl,h _⟩
theorem Xjz {t:Addr}{items:Array Value}{Q:Value->Shared->Prop}(ht:s.heap.IsTuple t items)(hz:items.size<=sizeLine)
  (h:∀tk,Q (.ref s.heap.objs.size) {s with heap:=s.heap.push (Xku t ((items.size:Int)-1)),toks:=tk}):wpAny (model prog w) A (call (.type "reversed") [.ref t]) Q E s:=
 callType_newIn F.lwrev_called (by decide) (F.lwrev_typeCall _) (F.lwrev_newCall _) (λobj=>F.lwrev_initArgs obj _) F.lwrev_newEntry (Yd7 t items) ⟨⟨ht,hz⟩,λtk=>⟨⟨_,get?_push_size _ rfl,rfl⟩,h tk⟩⟩
theorem Xx6 {it t:Addr}{i:Nat}{items:Array Value}{x:Value}{Q:Option Value->Shared->Prop}(hit:s.heap.LwRev it t (i:Int))(ht:s.heap.IsTuple t items)(hz:items.size<=sizeLine)(hx:items[i]?=some x)
  (hQ:∀h' tk,h'.LwRev it t ((i:Int)-1)->Heap.SameBut it s.heap h'->Q (some x) {s with heap:=h',toks:=tk}):wpAny (model prog w) A (pyNext (.ref it)) Q E s:=by
 have hT:s.TypeIs (.ref t) "tuple":=PyProof.Rows.IsTup.typeIs ht
 have hn:(sizeLine:Nat)<2^63:=by rw[sizeLine_eq];decide
 have hi:i<items.size:=(Array.getElem?_eq_some_iff.mp hx).1
 unfold pyNext
 refine wpAny_bind (wpAny_attempt (wpAny_callSpecial?_slot (name:=Str.ofString "__next__") hit.typeIs F.lwrev_next
  (wpAny_call_entry F.lwrev_next hit.typeIs F.lwrev_entry ?_ (F.lwrev_args _))))
 unfold Builtin.«reversed.__next__»
 refine wpAny_bind (wpAny_of_eq (a:=(Value.ref it,[])) rfl ?_)
 try dsimp only
 refine wpAny_bind (wpAny_field hit rfl (x:=.ref t) rfl ?_)
 refine wpAny_bind (wpAny_field hit rfl (x:=rawInt (i:Int)) rfl ?_)
 show wpAny _ _ (if (i:Int)<0 then _ else _) _ _ s
 rw[if_neg (by omega)]
 show wpAny _ _ (specialOf (.ref t) "__getitem__" >>= _) _ _ s
 refine wpAny_bind (wpAny_specialOf hT PyProof.Rows.slot_tuple_getitem.lookup ?_)
 show wpAny _ _ (if (Option.isNone (some _))=true then _ else _) _ _ s
 rw[if_neg (by decide)]
 show wpAny _ _ (mkInt (i:Int) >>= _) _ _ s
 refine wpAny_bind (wpAny_mkInt ?_)
 refine wpAny_bind (wpAny_attempt (PyProof.Rows.getItem_tuple (j:=i) ht (by omega) (by omega) (PySem.StrLaws.seqIndex_nonneg (by omega) (by omega)) hx ?_))
 dsimp only
 refine wpAny_bind (wpAny_field hit rfl (x:=rawInt (i:Int)) rfl ?_)
 show wpAny _ _ (setField (.ref it) 1 (rawInt ((i:Int)-1)) >>= _) _ _ _
 refine wpAny_bind (wpAny_setField hit rfl (by simp) ?_)
 refine wpAny_pure ⟨x,rfl,wpAny_pure (hQ _ _ ?_ (Heap.SameBut.update ..))⟩
 exact (get?_update_self _ hit (Obj.isFreed_of_fields (Obj.data_mapFields rfl _))).trans rfl
theorem Ya7 {it t:Addr}{Q:Option Value->Shared->Prop}(hh:A.handled=none)(hit:s.heap.LwRev it t (-1))
  (hQ:∀h',Heap.ExtBut it s.heap h'->Q none {s with heap:=h'}):wpAny (model prog w) A (pyNext (.ref it)) Q E s:=by
 unfold pyNext
 refine wpAny_bind (wpAny_attempt (wpAny_callSpecial?_slot (name:=Str.ofString "__next__") hit.typeIs F.lwrev_next
  (wpAny_call_entry F.lwrev_next hit.typeIs F.lwrev_entry ?_ (F.lwrev_args _))))
 unfold Builtin.«reversed.__next__»
 refine wpAny_bind (wpAny_of_eq (a:=(Value.ref it,[])) rfl ?_)
 try dsimp only
 refine wpAny_bind (wpAny_field hit rfl (x:=.ref t) rfl ?_)
 refine wpAny_bind (wpAny_field hit rfl (x:=rawInt (-1)) rfl ?_)
 show wpAny _ _ (if (-1:Int)<0 then _ else _) _ _ s
 rw[if_pos (by decide)]
 refine wpAny_bind (wpAny_rule ?_)
 refine wpAny_bind ?_
 show wpAny _ _ (setField (.ref it) 1 (rawInt (-1)) >>= _) _ _ _
 refine wpAny_bind (wpAny_setField hit rfl (by simp) ?_)
 refine wpAny_setField (o:=Obj.mapFields (λa=>a.setIfInBounds 1 (rawInt (-1))) (Xku t (-1))) (get?_update_self _ hit (Obj.isFreed_of_fields (Obj.data_mapFields rfl _))) (Obj.data_mapFields rfl _) (by simp) ?_
 refine wpAny_bind ?_
 show wpAny _ _ (newExc (.type "StopIteration") [] >>= _) _ _ _
 refine wpAny_bind ?_
 simp only[newExc,newTuple]
 refine wpAny_bind (wpAny_newObj_type ?_ (by size_fits))
 refine wpAny_bind (m:=firstArgMember _ _) (wpAny_of_eq (a:=Value.none) (by first |rfl | (simp only[firstArgMember];rfl)) ?_)
 refine wpAny_newObj_type ?_ (by size_fits)
 simp only[raiseNew]
 refine wpAny_bind (wpAny_handled ?_)
 first |rw[show A.in1.handled=none from hh] |rw[hh]
 refine wpAny_bind (wpAny_pure (wpAny_throw ?_))
 refine wpAny_bind (wpAny_isInstance (T := "StopIteration") (b:=true) ⟨_,get?_push_size _ rfl,rfl⟩ isSubtype_stop ?_)
 refine wpAny_pure (hQ _ ?_)
 refine Heap.ExtBut.push (Heap.ExtBut.push ?_ _) _
 intro b o hb e
 exact (get?_update_other _ _ (Ne.symm hb)).trans ((get?_update_other _ _ (Ne.symm hb)).trans e)
theorem Xpw {it t:Addr}{i:Int}{Q:Value->Shared->Prop}(hit:s.heap.LwRev it t i)(h:Q (.ref it) s):wpAny (model prog w) A (pyIter (.ref it)) Q E s:=by
 refine wpAny_pyIter_slot hit.typeIs F.lwrev_iter (wpAny_call_entry F.lwrev_iter hit.typeIs F.lwrev_ientry ?_ (F.lwrev_iargs _))
 show wpAny _ _ (ret (.ref it)) _ _ s
 exact wpAny_pure ⟨_,rfl,"reversed",_,hit.typeIs,F.lwrev_next.lookup,h⟩
end
end PySem
namespace L2
open PySem PySem.Spec PyProof.Rows
def Itv (K:Frag)(a:Addr)(n:Nat):It:=
 ⟨λi H=>∃xs x,SqT K H a xs/\xs.length=n/\i<n/\xs[n-1-i]?=some x,λi H x H'=>H'=H/\∀xs,SqT K H a xs->xs[n-1-i]?=some x,λi _=>n<=i⟩
theorem Ycn {P:Program}{w:World}{K:Frag}{tg:Expr}(a it:Addr)(n:Nat):Turn P w K tg (Itv K a n) [it] it (λi h=>i<=n/\h.LwRev it a ((n:Int)-1-(i:Nat))) where
 mem:=by simp
 obj := λi h st b hb=>by
  have e:b=it:=by simpa using hb
  subst e
  exact⟨_,st.2,λv z=>by
   have z':Data.fields _=Data.cell v:=z
   cases z'⟩
 keep:=λi h h' st k=>⟨st.1,k it (by simp) _ st.2⟩
 item:=by
  intro X hP hw hK hc i pins s Y H E I hf st hg
  subst hP hw hK
  obtain⟨xs,x,hq,hn,hi,hx⟩:=hg
  obtain⟨its,rv,p,hz⟩:=I.tuple hq
  obtain⟨u,hu,ru⟩:=rv.get hx
  obtain⟨f0,f1,f2,f3,f4,f5⟩:=hf it (by simp)
  have hl:=rv.length
  have st0:s.heap.LwRev it a (((n-1-i:Nat)):Int):=by
   have e:(((n-1-i:Nat)):Int)=(n:Int)-1-(i:Nat):=by omega
   rw[e];exact st.2
  refine Xx6 (items:=its.toArray) st0 p (by rw[size_toArray,<- hl];exact hz) (x:=u) (by simpa using hu) λh' tk st' sb=>?_
  have I1:Inv X pins Y H {s with heap:=h',toks:=tk}:=I.turned (λb o hb e=>(sb.2 b hb).trans e) f0 f1 f3 f4 f5
  have st1:h'.LwRev it a ((n:Int)-1-((i+1:Nat):Int)):=by
   have e:(n:Int)-1-((i+1:Nat):Int)=(((n-1-i:Nat)):Int)-1:=by omega
   rw[e];exact st'
  exact⟨u,rfl,Xtc (s:={s with heap:=h',toks:=tk}) (n := "reversed") st' rfl rfl (by decide) ⟨x,H,I1,ru,⟨rfl,λys hy=>by rw[I.tuple_inj hy hq];exact hx⟩,⟨by omega,st1⟩,λb hb=>(hf b hb).1⟩⟩
 done:=by
  intro X hP hw hK hc i pins s Y H E I hf st hg
  subst hP hw hK
  obtain⟨f0,f1,f2,f3,f4,f5⟩:=hf it (by simp)
  have st0:s.heap.LwRev it a (-1):=by
   have h1:=st.1
   have h2:n<=i:=hg
   have e:(-1:Int)=(n:Int)-1-(i:Nat):=by omega
   rw[e];exact st.2
  exact Ya7 (I.ok.hd hc) st0 λh' eb=>⟨rfl,I.turned (t':=s.toks) (λb o hb e=>eb b o hb e) f0 f1 f3 f4 f5⟩
 self:=λ_ _ _ _ _ st h=>Xpw st.2 h
section
variable {X:Cx}{tg:Expr}
def Yom (K:Frag)(ta:TA):TI:=λY H R=>ta Y H λvs H1=>∃a xs,vs=[.ref a]/\SqT K H1 a xs/\R (Itv K a xs.length) H1
theorem Xnw {l:Expr}{ta:TA}{p pos:Pos}(hg:Gl X "reversed")(hm:X.mg "reversed"=none)(ha:PA X [l] ta)(hs:starEach [l] X.env=[(false,eval l X.env)]:=by rfl):PI X tg (.Call (.Name "reversed" p) [l] [] pos) (Yom X.K ta):=by
 intro pins s Y H R I h
 refine Call_ (Xgn I hg hm PyProof.Rows.boot_reversed (PyProof.Rows.callWith_type1 (thn (ha pos pins s Y H _ I h) λus s1 ⟨vs,H1,I1,r1,q1⟩=>?_) hs rfl))
 obtain⟨a,xs,e,hq,q⟩:=q1
 subst e
 obtain⟨u,rfl,ru⟩:=Xhx r1
 cases ru
 obtain⟨its,rv,pt,hz⟩:=I1.tuple hq
 have hl:=rv.length
 refine Xjz (items:=its.toArray) pt (by rw[size_toArray,<- hl];exact hz) λtk=>?_
 have e0:(s1.heap.push (Xku a ((its.toArray.size:Int)-1))).LwRev s1.heap.objs.size a ((xs.length:Int)-1-((0:Nat):Int)):=by
  have e:(xs.length:Int)-1-((0:Nat):Int)=(its.toArray.size:Int)-1:=by rw[size_toArray,hl];omega
  rw[e]
  exact get?_push_size _ rfl
 refine Xpw e0 ?_
 refine⟨s1.heap.objs.size,[s1.heap.objs.size],_,_,H1,rfl,I1.kept λb o e=>get?_push_of_some _ e,Ycn a _ xs.length,⟨zero_le _,e0⟩,λb hb=>?_,q⟩
 have e:b=s1.heap.objs.size:=by simpa using hb
 subst e
 exact I1.fpOk (Nat.le_refl _) (I1.hok.fresh (Nat.le_refl _))
end
theorem Xbi.seqT {K:Frag}{H H':Hp}{a:Addr}{xs:List V}(e:Xbi H H')(h:SqT K H a xs):SqT K H' a xs:=by
 rcases h with (h | ⟨o,h⟩) |h
 .exact .inl (.inl (e _ _ h))
 .exact .inl (.inr ⟨o,e _ _ h⟩)
 .exact .inr h
theorem Xao {X:Cx}{x:Str}{i:Int}{pos:Pos}(hg:Gl X x)(hm:∃t,X.mg x=some (.int i t))(hd:(x==("__debug__":Str))=false:=by decide):PE X (.Name x pos) (tC (.int i)):=by
 obtain⟨t,e⟩:=hm
 exact Xul hg e ⟨t,rfl⟩ hd
inductive D where
 |int (i:Int) |bl (b:Bool) |non |str (x:Str) |ty (n:String) |fn (x:Str) |tup (ds:List D) |lst (ds:List D) |dic |exc (c:Str) |obj (c:Str) (ns:List Str) (ds:List D)
def Yl5 (a:Addr)(c:Value):Heap->Prop:=λh=>∃o,h.get? a=some o/\o.cls=c
mutual
def Rep (K:Frag)(F:Hp):D->V->Prop
 | .int i,v=>v = .int i
 | .bl b,v=>v = .bl b
 | .non,v=>v = .non
 | .str x,v=>v = .str x
 | .ty n,v=>v = .ty n
 | .fn x,v=>∃f,v = .ref f/\nsIn K mainGlobals x=some (some (.ref f))
 | .tup ds,v=>∃a vs,v = .ref a/\SqT K F a vs/\Xb6 K F ds vs
 | .lst ds,v=>∃a vs,v = .ref a/\SqL K F a vs/\Xb6 K F ds vs
 | .dic,v=>∃a,v = .ref a/\F a=some (.ext (Yl5 a (.type "dict")))
 | .exc c,v=>∃a C,v = .ref a/\nsIn K mainGlobals c=some (some (.ref C))/\F a=some (.ext (Yl5 a (.ref C)))
 | .obj c ns ds,v=>∃a C dx vs,v = .ref a/\nsIn K mainGlobals c=some (some (.ref C))/\F a=some (.ins C dx (ns.zip vs))/\ds.length<=ns.length/\Xb6 K F ds vs
def Xb6 (K:Frag)(F:Hp):List D->List V->Prop
 | [],vs=>vs=[]
 |d::ds,vs=>∃v r,vs=v::r/\Rep K F d v/\Xb6 K F ds r
end
section
variable {K:Frag}{F F' H H':Hp}
mutual
theorem Rep.mono (s:Xbi F F'):∀{d:D} {v:V},Rep K F d v->Rep K F' d v
 | .int _,_,h=>h
 | .bl _,_,h=>h
 | .non,_,h=>h
 | .str _,_,h=>h
 | .ty _,_,h=>h
 | .fn _,_,h=>h
 | .tup ds,v,h=>by
  obtain⟨a,vs,e,h1,h2⟩:=h
  exact⟨a,vs,e,s.seqT h1,Xb6.mono s h2⟩
 | .lst ds,v,h=>by
  obtain⟨a,vs,e,h1,h2⟩:=h
  exact⟨a,vs,e,s.seq h1,Xb6.mono s h2⟩
 | .dic,v,h=>by
  obtain⟨a,e,h1⟩:=h
  exact⟨a,e,s _ _ h1⟩
 | .exc _,v,h=>by
  obtain⟨a,C,e,h0,h1⟩:=h
  exact⟨a,C,e,h0,s _ _ h1⟩
 | .obj _ _ ds,v,h=>by
  obtain⟨a,C,dx,vs,e,h0,h1,hl,h2⟩:=h
  exact⟨a,C,dx,vs,e,h0,s _ _ h1,hl,Xb6.mono s h2⟩
theorem Xb6.mono (s:Xbi F F'):∀{ds:List D} {vs:List V},Xb6 K F ds vs->Xb6 K F' ds vs
 | [],_,h=>h
 |d::ds,vs,h=>by
  obtain⟨v,r,e,h1,h2⟩:=h
  exact⟨v,r,e,Rep.mono s h1,Xb6.mono s h2⟩
end
theorem Xb6.length:∀{ds:List D} {vs:List V},Xb6 K F ds vs->ds.length=vs.length
 | [],_,h=>by cases h;rfl
 |d::ds,vs,h=>by
  obtain⟨v,r,rfl,h1,h2⟩:=h
  simp[Xb6.length h2]
theorem Xb6.get:∀{ds:List D} {vs:List V} {i:Nat} {d:D},Xb6 K F ds vs->ds[i]?=some d->∃v,vs[i]?=some v/\Rep K F d v
 | [],_,_,_,_,e=>by simp at e
 |d::ds,vs,i,d',h,e=>by
  obtain⟨v,r,rfl,h1,h2⟩:=h
  cases i with
  |zero=>simp at e;subst e;exact⟨v,rfl,h1⟩
  |succ i=>simpa using Xb6.get h2 (by simpa using e)
theorem Xb6.get':∀{ds:List D} {vs:List V} {i:Nat} {v:V},Xb6 K F ds vs->vs[i]?=some v->∃d,ds[i]?=some d/\Rep K F d v:=λ{ds vs i v} h e=>by
 have hl:=h.length
 have hi:=(List.getElem?_eq_some_iff.mp e).1
 obtain⟨v',e',r⟩:=h.get (getElem?_eq_getElem (l:=ds) (i:=i) (by omega))
 rw[e]at e';cases e'
 exact⟨_,getElem?_eq_getElem (by omega),r⟩
theorem Xb6.append:∀{ds es:List D} {vs us:List V},Xb6 K F ds vs->Xb6 K F es us->Xb6 K F (ds++es) (vs++us)
 | [],_,_,_,h,g=>by cases h;exact g
 |d::ds,_,_,_,h,g=>by
  obtain⟨v,r,rfl,h1,h2⟩:=h
  exact⟨v,r++_,rfl,h1,Xb6.append h2 g⟩
theorem Xb6.take:∀{ds:List D} {vs:List V} (n:Nat),Xb6 K F ds vs->Xb6 K F (ds.take n) (vs.take n)
 | [],_,n,h=>by cases h;simp[Xb6]
 |d::ds,_,0,h=>by simp[Xb6]
 |d::ds,_,n+1,h=>by
  obtain⟨v,r,rfl,h1,h2⟩:=h
  exact⟨v,r.take n,rfl,h1,Xb6.take n h2⟩
theorem Xb6.drop:∀{ds:List D} {vs:List V} (n:Nat),Xb6 K F ds vs->Xb6 K F (ds.drop n) (vs.drop n)
 | [],_,n,h=>by cases h;simp[Xb6]
 |d::ds,_,0,h=>h
 |d::ds,_,n+1,h=>by
  obtain⟨v,r,rfl,h1,h2⟩:=h
  simpa using Xb6.drop n h2
theorem Xb6.of:∀{ds:List D} {vs:List V},ds.length=vs.length->(∀(i:Nat) d v,ds[i]?=some d->vs[i]?=some v->Rep K F d v)->Xb6 K F ds vs
 | [],[],_,_=>rfl
 |d::ds,v::vs,e,h=>⟨v,vs,rfl,h 0 d v rfl rfl,Xb6.of (by simpa using e) λi d' v' e1 e2=>h (i+1) d' v' (by simpa using e1) (by simpa using e2)⟩
 | [],_::_,e,_=>by simp at e
 |_::_,[],e,_=>by simp at e
theorem Xb6.reverse {ds:List D}{vs:List V}(h:Xb6 K F ds vs):Xb6 K F ds.reverse vs.reverse:=by
 have hl:=h.length
 refine Xb6.of (by simp[hl]) λi d v e1 e2=>?_
 have h1:=(List.getElem?_eq_some_iff.mp e1).1
 rw[length_reverse]at h1
 rw[getElem?_reverse (by omega)]at e1
 rw[getElem?_reverse (by omega),<- hl]at e2
 obtain⟨v',e',r⟩:=h.get e1
 rw[e2]at e';cases e';exact r
theorem Xkl:∀{xs:List Int} {vs:List V},Xb6 K F (xs.map D.int) vs↔vs=xs.map V.int
 | [],vs=>Iff.rfl
 |x :: xs,vs=>by
  constructor
  .rintro ⟨v,r,rfl,h1,h2⟩
   have h1':v=V.int x:=h1
   rw[h1',Xkl.mp h2];rfl
  .rintro rfl
   exact⟨_,_,rfl,rfl,Xkl.mpr rfl⟩
end
def imm:HO->Bool
 | .tup _=>true
 | .frz _ _=>true
 |_=>false
inductive OV where
 |fz (d:D)
 |nl (ts:List OV)
 |rt (a:Addr) (ts:List OV)
 |fx (v:V) (d:D)
 |ob (o:Option Addr) (c:Str) (ns:List Str) (ts:List OV)
mutual
def OV.val:OV->D
 | .fz d=>d
 | .nl ts=>.lst (OV.vals ts)
 | .rt _ ts=>.lst (OV.vals ts)
 | .fx _ d=>d
 | .ob _ c ns ts=>.obj c ns (OV.vals ts)
def OV.vals:List OV->List D
 | []=>[]
 |t::ts=>t.val::OV.vals ts
end
theorem OV.vals_eq:∀(ts:List OV),OV.vals ts=ts.map OV.val
 | []=>by simp[OV.vals]
 |t::ts=>by simp[OV.vals,OV.vals_eq ts]
mutual
def Xm0 (K:Frag)(F H:Hp):OV->V->List Addr->Prop
 | .fz d,v,A=>A=[]/\Rep K F d v
 | .nl ts,v,A=>∃a vs B,v = .ref a/\A=a::B/\H a=some (.lst vs)/\Xa6 K F H ts vs B
 | .rt a ts,v,A=>∃vs B,v = .ref a/\A=a::B/\H a=some (.lst vs)/\Xa6 K F H ts vs B
 | .fx u d,v,A=>A=[]/\v=u/\Rep K F d v
 | .ob o c ns ts,v,A=>∃a C dx vs B,v = .ref a/\A=a::dx::B/\nsIn K mainGlobals c=some (some (.ref C))/\(∀a',o=some a'->a=a')/\H a=some (.ins C dx (ns.zip vs))/\H dx=some (.own a)/\ts.length<=ns.length/\Xa6 K F H ts vs B
def Xa6 (K:Frag)(F H:Hp):List OV->List V->List Addr->Prop
 | [],vs,A=>vs=[]/\A=[]
 |t::ts,vs,A=>∃v r B C,vs=v::r/\A=B++C/\Xm0 K F H t v B/\Xa6 K F H ts r C
end
section
variable {K:Frag}{F F' H H':Hp}
mutual
theorem Xm0.frame (s:Xbi F F'):∀{t:OV} {v:V} {A:List Addr},(∀a∈A,∀xs,H a=some xs->H' a=some xs)->Xm0 K F H t v A->Xm0 K F' H' t v A
 | .fz d,v,A,_,h=>⟨h.1,h.2.mono s⟩
 | .nl ts,v,A,hk,h=>by
  obtain⟨a,vs,B,e,rfl,h1,h2⟩:=h
  exact⟨a,vs,B,e,rfl,hk a mem_cons_self _ h1,Xa6.frame s (λb hb=>hk b (mem_cons_of_mem _ hb)) h2⟩
 | .rt a ts,v,A,hk,h=>by
  obtain⟨vs,B,e,rfl,h1,h2⟩:=h
  exact⟨vs,B,e,rfl,hk a mem_cons_self _ h1,Xa6.frame s (λb hb=>hk b (mem_cons_of_mem _ hb)) h2⟩
 | .fx u d,v,A,_,h=>⟨h.1,h.2.1,h.2.2.mono s⟩
 | .ob o c ns ts,v,A,hk,h=>by
  obtain⟨a,C,dx,vs,B,e,rfl,h0,ho,h1,h2,hl,h3⟩:=h
  exact⟨a,C,dx,vs,B,e,rfl,h0,ho,hk a (by simp) _ h1,hk dx (by simp) _ h2,hl,Xa6.frame s (λb hb=>hk b (by simp[hb])) h3⟩
theorem Xa6.frame (s:Xbi F F'):∀{ts:List OV} {vs:List V} {A:List Addr},(∀a∈A,∀xs,H a=some xs->H' a=some xs)->Xa6 K F H ts vs A->Xa6 K F' H' ts vs A
 | [],vs,A,_,h=>h
 |t::ts,vs,A,hk,h=>by
  obtain⟨v,r,B,C,e,rfl,h1,h2⟩:=h
  exact⟨v,r,B,C,e,rfl,Xm0.frame s (λb hb=>hk b (mem_append_left _ hb)) h1,Xa6.frame s (λb hb=>hk b (mem_append_right _ hb)) h2⟩
end
mutual
theorem Xm0.isl:∀{t:OV} {v:V} {A:List Addr},Xm0 K F H t v A->∀a∈A,∃xs,H a=some xs/\imm xs=false
 | .fz d,v,A,h,a,ha=>by rw[h.1]at ha;cases ha
 | .nl ts,v,A,h,a,ha=>by
  obtain⟨b,vs,B,e,rfl,h1,h2⟩:=h
  rcases mem_cons.mp ha with rfl |z
  .exact ⟨_,h1,rfl⟩
  .exact Xa6.isl h2 a z
 | .rt b ts,v,A,h,a,ha=>by
  obtain⟨vs,B,e,rfl,h1,h2⟩:=h
  rcases mem_cons.mp ha with rfl |z
  .exact ⟨_,h1,rfl⟩
  .exact Xa6.isl h2 a z
 | .fx u d,v,A,h,a,ha=>by rw[h.1]at ha;cases ha
 | .ob o c ns ts,v,A,h,a,ha=>by
  obtain⟨b,C,dx,vs,B,e,rfl,h0,ho,h1,h2,hl,h3⟩:=h
  rcases mem_cons.mp ha with rfl |z
  .exact ⟨_,h1,rfl⟩
  .rcases mem_cons.mp z with rfl |z
   .exact ⟨_,h2,rfl⟩
   .exact Xa6.isl h3 a z
theorem Xa6.isl:∀{ts:List OV} {vs:List V} {A:List Addr},Xa6 K F H ts vs A->∀a∈A,∃xs,H a=some xs/\imm xs=false
 | [],vs,A,h,a,ha=>by rw[h.2]at ha;cases ha
 |t::ts,vs,A,h,a,ha=>by
  obtain⟨v,r,B,C,e,rfl,h1,h2⟩:=h
  rcases mem_append.mp ha with z |z
  .exact Xm0.isl h1 a z
  .exact Xa6.isl h2 a z
end
mutual
theorem Xm0.rep (s:Xbi F F'):∀{t:OV} {v:V} {A:List Addr},(∀a∈A,∀xs,H a=some xs->F' a=some xs)->Xm0 K F H t v A->Rep K F' t.val v
 | .fz d,v,A,_,h=>h.2.mono s
 | .nl ts,v,A,hk,h=>by
  obtain⟨a,vs,B,e,rfl,h1,h2⟩:=h
  exact⟨a,vs,e,SqL.of (hk a mem_cons_self _ h1),Xa6.rep s (λb hb=>hk b (mem_cons_of_mem _ hb)) h2⟩
 | .fx u d,v,A,_,h=>h.2.2.mono s
 | .ob o c ns ts,v,A,hk,h=>by
  obtain⟨a,C,dx,vs,B,e,rfl,h0,ho,h1,h2,hl,h3⟩:=h
  exact⟨a,C,dx,vs,e,h0,hk a (by simp) _ h1,by rw[OV.vals_eq,length_map];exact hl,Xa6.rep s (λb hb=>hk b (by simp[hb])) h3⟩
 | .rt a ts,v,A,hk,h=>by
  obtain⟨vs,B,e,rfl,h1,h2⟩:=h
  exact⟨a,vs,e,SqL.of (hk a mem_cons_self _ h1),Xa6.rep s (λb hb=>hk b (mem_cons_of_mem _ hb)) h2⟩
theorem Xa6.rep (s:Xbi F F'):∀{ts:List OV} {vs:List V} {A:List Addr},(∀a∈A,∀xs,H a=some xs->F' a=some xs)->Xa6 K F H ts vs A->Xb6 K F' (OV.vals ts) vs
 | [],vs,A,_,h=>h.1
 |t::ts,vs,A,hk,h=>by
  obtain⟨v,r,B,C,e,rfl,h1,h2⟩:=h
  exact⟨v,r,e,Xm0.rep s (λb hb=>hk b (mem_append_left _ hb)) h1,Xa6.rep s (λb hb=>hk b (mem_append_right _ hb)) h2⟩
end
theorem Xa6.length:∀{ts:List OV} {vs:List V} {A:List Addr},Xa6 K F H ts vs A->ts.length=vs.length
 | [],_,_,h=>by rw[h.1];rfl
 |t::ts,_,_,h=>by
  obtain⟨v,r,B,C,rfl,rfl,h1,h2⟩:=h
  simp[Xa6.length h2]
theorem Xa6.append:∀{ts us:List OV} {vs ws:List V} {A B:List Addr},Xa6 K F H ts vs A->Xa6 K F H us ws B->Xa6 K F H (ts++us) (vs++ws) (A++B)
 | [],_,_,_,_,_,h,g=>by obtain⟨rfl,rfl⟩:=h;exact g
 |t::ts,_,_,_,_,_,h,g=>by
  obtain⟨v,r,B,C,rfl,rfl,h1,h2⟩:=h
  exact⟨v,_,B,_,rfl,by rw[append_assoc],h1,Xa6.append h2 g⟩
theorem Xa6.one {t:OV}{v:V}{A:List Addr}(h:Xm0 K F H t v A):Xa6 K F H [t] [v] A:=⟨v,[],A,[],rfl,by simp,h,rfl,rfl⟩
theorem Xa6.focus:∀{ts:List OV} {vs:List V} {A:List Addr} {i:Nat} {t:OV},Xa6 K F H ts vs A->ts[i]?=some t->∃v A1 B A2,vs[i]?=some v/\A=A1++(B++A2)/\Xm0 K F H t v B/\
  ∀F' H' t' v' B',Xbi F F'->(∀a∈A1++A2,∀xs,H a=some xs->H' a=some xs)->Xm0 K F' H' t' v' B'->Xa6 K F' H' (ts.set i t') (vs.set i v') (A1++(B'++A2))
 | [],_,_,_,_,_,e=>by simp at e
 |t::ts,_,_,0,t0,h,e=>by
  obtain⟨v,r,B,C,rfl,rfl,h1,h2⟩:=h
  simp at e
  subst e
  refine⟨v,[],B,C,rfl,rfl,h1,λF' H' t' v' B' s hk h'=>?_⟩
  exact⟨v',r,B',C,rfl,rfl,h',Xa6.frame s (λa ha=>hk a ha) h2⟩
 |t::ts,_,_,i+1,t0,h,e=>by
  obtain⟨v,r,B,C,rfl,rfl,h1,h2⟩:=h
  obtain⟨v0,A1,B0,A2,e1,rfl,h3,h4⟩:=Xa6.focus (i:=i) h2 (by simpa using e)
  refine⟨v0,B++A1,B0,A2,by simpa using e1,by simp,h3,λF' H' t' v' B' s hk h'=>?_⟩
  refine⟨v,r.set i v',B,A1++(B'++A2),rfl,by simp,Xm0.frame s (λa ha=>hk a (by simp[ha])) h1,h4 F' H' t' v' B' s (λa ha=>hk a ?_) h'⟩
  rcases mem_append.mp ha with z |z<;>simp[z]
theorem Xa6.fzs:∀{ds:List D} {vs:List V},Xb6 K F ds vs->Xa6 K F H (ds.map OV.fz) vs []
 | [],_,h=>⟨h,rfl⟩
 |d::ds,_,h=>by
  obtain⟨v,r,rfl,h1,h2⟩:=h
  exact⟨v,r,[],[],rfl,rfl,⟨rfl,h1⟩,Xa6.fzs h2⟩
end
structure Ext (F H F' H':Hp):Prop where
 ff:Xbi F F'
 hh:Xbi H H'
 fh:Xbi F' H'
 no:∀a o,F a=none->H a=some o->imm o=false->F' a=none
theorem Ext.refl {F H:Hp}(s:Xbi F H):Ext F H F H:=⟨Xbi.refl _,Xbi.refl _,s,λ_ _ h _ _=>h⟩
theorem Ext.trans {F H F' H' F'' H'':Hp}(a:Ext F H F' H')(b:Ext F' H' F'' H''):Ext F H F'' H'':=
 ⟨a.ff.trans b.ff,a.hh.trans b.hh,b.fh,λx o h1 h2 h3=>b.no x o (a.no x o h1 h2 h3) (a.hh _ _ h2) h3⟩
def Xpc (K:Frag)(H F' H':Hp)(r:OV)(v:V):Prop:=∃A,Xm0 K F' H' r v A/\A.Nodup/\∀a∈A,H a=none/\F' a=none
theorem Xpc.fz {K:Frag}{H F' H':Hp}{d:D}{v:V}(h:Rep K F' d v):Xpc K H F' H' (.fz d) v:=⟨[],⟨rfl,h⟩,nodup_nil,λ_ h=>by cases h⟩
theorem Xpc.old {K:Frag}{H0 H F' H':Hp}{r:OV}{v:V}(s:Xbi H0 H)(h:Xpc K H F' H' r v):Xpc K H0 F' H' r v:=by
 obtain⟨A,h1,h2,h3⟩:=h
 exact⟨A,h1,h2,λa ha=>⟨s.free (h3 a ha).1,(h3 a ha).2⟩⟩
theorem Xpc.frz {K:Frag}{F H F' H':Hp}{r:OV}{v:V}(x:Ext F H F' H')(h:Xpc K H F' H' r v):∃F'',Ext F H F'' H'/\Xbi F' F''/\Rep K F'' r.val v:=by
 obtain⟨A,h1,h2,h3⟩:=h
 refine⟨λa=>if a∈A then H' a else F' a,⟨λb o e=>?_,x.hh,λb o e=>?_,λa o e1 e2 e3=>?_⟩,λb o e=>?_,?_⟩
 .have hb:b∉A:=λz=>by rw[(x.ff.free (h3 b z).2)]at e;cases e
  rw[if_neg hb];exact x.ff _ _ e
 .try dsimp only at e
  split at e
  .exact e
  .exact x.fh _ _ e
 .have ha:a∉A:=λz=>by rw[(h3 a z).1]at e2;cases e2
  rw[if_neg ha];exact x.no a o e1 e2 e3
 .have hb:b∉A:=λz=>by rw[(h3 b z).2]at e;cases e
  try dsimp only
  rw[if_neg hb];exact e
 .refine h1.rep (λb o e=>?_) λa ha xs e=>?_
  .have hb:b∉A:=λz=>by rw[(h3 b z).2]at e;cases e
   rw[if_neg hb];exact e
  .rw [if_pos ha];exact e
inductive Sl where
 |own (t:OV)
 |bw (d:D)
abbrev Dst:=List (Option Sl)
structure ER (K:Frag) (F0 H0 F H:Hp) (Y:St) (M:Dst) (A:Nat->List Addr):Prop where
 len:Y.length=M.length
 ext:Ext F0 H0 F H
 own:∀(i:Nat) (t:OV),M[i]?=some (some (.own t))->∃v,Y[i]?=some (some v)/\Xm0 K F H t v (A i)
 bw:∀(i:Nat) (d:D),M[i]?=some (some (.bw d))->∃v,Y[i]?=some (some v)/\Rep K H0 d v
 nod:∀i,(A i).Nodup
 dis:∀i j a,i≠j->a∈A i->a∉A j
 new:∀i a,a∈A i->F a=none/\H0 a=none/\∃xs,H a=some xs/\imm xs=false
def Xfo (K:Frag)(F0 H0 F H:Hp)(Y:St)(M:Dst):Prop:=∃A,ER K F0 H0 F H Y M A
section
variable {K:Frag}{F0 H0 F H F' H':Hp}{Y:St}{M:Dst}{A:Nat->List Addr}
theorem ER.on (e:ER K F0 H0 F H Y M A)(x:Ext F H F' H'):ER K F0 H0 F' H' Y M A where
 len:=e.len
 ext:=e.ext.trans x
 own:=λi t h=>by
  obtain⟨v,h1,h2⟩:=e.own i t h
  exact⟨v,h1,h2.frame x.ff λa _ xs z=>x.hh _ _ z⟩
 bw:=e.bw
 nod:=e.nod
 dis:=e.dis
 new:=λi a ha=>by
  obtain⟨h1,h2,xs,h3,h4⟩:=e.new i a ha
  exact⟨x.no a _ h1 h3 h4,h2,xs,x.hh _ _ h3,h4⟩
theorem Xfo.on (e:Xfo K F0 H0 F H Y M)(x:Ext F H F' H'):Xfo K F0 H0 F' H' Y M:=let⟨A,e⟩:=e;⟨A,e.on x⟩
theorem Xfo.ext (e:Xfo K F0 H0 F H Y M):Ext F0 H0 F H:=let⟨_,e⟩:=e;e.ext
theorem Xfo.put (e:Xfo K F0 H0 F H Y M)(x:Ext F H F' H')(i:Nat){r:OV}{v:V}(h:Xpc K H F' H' r v):Xfo K F0 H0 F' H' (Y.set i (some v)) (M.set i (some (.own r))):=by
 obtain⟨A,e⟩:=e
 obtain⟨B,b1,b2,b3⟩:=h
 have e':=e.on x
 refine⟨λj=>if j=i then B else A j,by simp[e.len],e'.ext,λj t hj=>?_,λj d hj=>?_,λj=>?_,λj k a hjk h1 h2=>?_,λj a ha=>?_⟩
 .try dsimp only
  by_cases z:j=i
  .subst z
   rw[if_pos rfl]
   have hl:j<M.length:=by
    have:=(List.getElem?_eq_some_iff.mp hj).1
    rwa[length_set]at this
   rw[getElem?_set_self hl]at hj
   cases hj
   exact⟨v,getElem?_set_self (by rw[e.len];exact hl),b1⟩
  .rw [if_neg z]
   rw[getElem?_set_ne (Ne.symm z)]at hj ⊢
   exact e'.own j t hj
 .by_cases z:j=i
  .subst z
   have hl:j<M.length:=by
    have:=(List.getElem?_eq_some_iff.mp hj).1
    rwa[length_set]at this
   rw[getElem?_set_self hl]at hj
   cases hj
  .rw [getElem?_set_ne (Ne.symm z)]at hj ⊢
   exact e'.bw j d hj
 .try dsimp only
  split
  .exact b2
  .exact e.nod j
 .try dsimp only at h1 h2
  have key:∀k,a∈B->a∈A k->False:=λk z1 z2=>by
   obtain⟨_,_,xs,q,_⟩:=e.new k a z2
   rw[(b3 a z1).1]at q;cases q
  split at h1
  .split at h2
   .omega
   .exact key _ h1 h2
  .split at h2
   .exact key _ h2 h1
   .exact e.dis j k a hjk h1 h2
 .try dsimp only at ha
  split at ha
  .exact ⟨(b3 a ha).2,e.ext.hh.free (b3 a ha).1,b1.isl a ha⟩
  .exact e'.new j a ha
theorem ER.putFz (e:ER K F0 H0 F H Y M A)(i:Nat){d:D}{v:V}(h:Rep K F d v):ER K F0 H0 F H (Y.set i (some v)) (M.set i (some (.own (.fz d)))) (λj=>if j=i then [] else A j):=by
 refine⟨by simp[e.len],e.ext,λj t hj=>?_,λj d hj=>?_,λj=>?_,λj k a hjk h1 h2=>?_,λj a ha=>?_⟩
 .try dsimp only
  by_cases z:j=i
  .subst z
   rw[if_pos rfl]
   have hl:j<M.length:=by
    have:=(List.getElem?_eq_some_iff.mp hj).1
    rwa[length_set]at this
   rw[getElem?_set_self hl]at hj
   cases hj
   exact⟨v,getElem?_set_self (by rw[e.len];exact hl),rfl,h⟩
  .rw [if_neg z]
   rw[getElem?_set_ne (Ne.symm z)]at hj ⊢
   exact e.own j t hj
 .by_cases z:j=i
  .subst z
   have hl:j<M.length:=by
    have:=(List.getElem?_eq_some_iff.mp hj).1
    rwa[length_set]at this
   rw[getElem?_set_self hl]at hj
   cases hj
  .rw [getElem?_set_ne (Ne.symm z)]at hj ⊢
   exact e.bw j d hj
 .try dsimp only
  split
  .exact nodup_nil
  .exact e.nod j
 .try dsimp only at h1 h2
  split at h1
  .cases h1
  .split at h2
   .cases h2
   .exact e.dis j k a hjk h1 h2
 .try dsimp only at ha
  split at ha
  .cases ha
  .exact e.new j a ha
end
abbrev DE:=Dst->(D->Prop)->Prop
abbrev DO:=Dst->(OV->Prop)->Prop
abbrev DA:=Dst->(List D->Prop)->Prop
abbrev DAO:=Dst->(List OV->Prop)->Prop
abbrev DT:=Dst->(Bool->Prop)->Prop
structure DEnds where
 nx:Dst->Prop
 rt:OV->Prop
 bk:Dst->Prop:=λ_=>False
 ct:Dst->Prop:=λ_=>False
abbrev DS:=DEnds->Dst->Prop
section
variable (K:Frag)
def Xj5 (t:TE)(E:DO):Prop:=∀F0 H0 F H Y M P Q,Xfo K F0 H0 F H Y M->E M P->(∀r v F' H',P r->Ext F H F' H'->Xpc K H F' H' r v->Q v H')->t Y H Q
def Xey (t:TE)(E:DE):Prop:=∀F0 H0 F H Y M P Q,Xfo K F0 H0 F H Y M->E M P->(∀d v F' H',P d->Ext F H F' H'->Rep K F' d v->Q v H')->t Y H Q
def Xhv (t:TE)(E:DE):Prop:=∀F0 H0 F H Y M P Q,Xfo K F0 H0 F H Y M->E M P->(∀d v F' H',P d->Ext F H F' H'->Rep K H' d v->Q v H')->t Y H Q
def Xw9 (t:TT)(C:DT):Prop:=∀F0 H0 F H Y M P Q,Xfo K F0 H0 F H Y M->C M P->(∀b F' H',P b->Ext F H F' H'->Q b H')->t Y H Q
def Xiy (t:TA)(E:DA):Prop:=∀F0 H0 F H Y M P Q,Xfo K F0 H0 F H Y M->E M P->(∀ds vs F' H',P ds->Ext F H F' H'->Xb6 K F' ds vs->Q vs H')->t Y H Q
def Xos (t:TA)(E:DA):Prop:=∀F0 H0 F H Y M P Q,Xfo K F0 H0 F H Y M->E M P->(∀ds vs F' H',P ds->Ext F H F' H'->Xb6 K H' ds vs->Q vs H')->t Y H Q
def Ynr (H F' H':Hp)(rs:List OV)(vs:List V):Prop:=∃A,Xa6 K F' H' rs vs A/\A.Nodup/\∀a∈A,H a=none/\F' a=none
def Yer (t:TA)(E:DAO):Prop:=∀F0 H0 F H Y M P Q,Xfo K F0 H0 F H Y M->E M P->(∀rs vs F' H',P rs->Ext F H F' H'->Ynr K H F' H' rs vs->Q vs H')->t Y H Q
structure Lk (F0 H0:Hp) (De:DEnds) (E:Ends):Prop where
 nx:∀F H Y M,Xfo K F0 H0 F H Y M->De.nx M->E.nx Y H
 bk:∀F H Y M,Xfo K F0 H0 F H Y M->De.bk M->E.bk Y H
 ct:∀F H Y M,Xfo K F0 H0 F H Y M->De.ct M->E.ct Y H
 rt:∀F H r v,Ext F0 H0 F H->Xpc K H0 F H r v->De.rt r->E.rt v H
def Xfn (t:TS)(T:DS):Prop:=∀F0 H0 F H Y M De E,Xfo K F0 H0 F H Y M->Lk K F0 H0 De E->T De M->t E Y H
def Yjb (g:TG)(G:D->Dst->(Dst->Prop)->Prop):Prop:=∀F0 H0 F H Y M A d v P Q,ER K F0 H0 F H Y M A->Rep K F d v->G d M P->(∀Y' M' A',P M'->ER K F0 H0 F H Y' M' A'->(∀i a,a∈A' i->a∈A i)->Q Y' H)->g v Y H Q
def Yeq (g:TGs)(G:List D->Dst->(Dst->Prop)->Prop):Prop:=∀F0 H0 F H Y M A ds vs P Q,ER K F0 H0 F H Y M A->Xb6 K F ds vs->G ds M P->(∀Y' M' A',P M'->ER K F0 H0 F H Y' M' A'->(∀i a,a∈A' i->a∈A i)->Q Y' H)->g vs Y H Q
end
section
variable {K:Frag}{t ta tb tc:TE}{E Ea Eb Ec:DE}
def dFz (E:DE):DO:=λM P=>E M λd=>P (.fz d)
def Yot (E:DO):DE:=λM P=>E M λr=>P r.val
theorem Xap (h:Xey K t E):Xhv K t E:=λF0 H0 F H Y M P Q e w q=>h F0 H0 F H Y M P Q e w λd v F' H' p x r=>q d v F' H' p x (r.mono x.fh)
theorem Xbk (h:Xey K t E):Xj5 K t (dFz E):=λF0 H0 F H Y M P Q e w q=>h F0 H0 F H Y M _ Q e w λd v F' H' p x r=>q _ v F' H' p x (.fz r)
theorem Xb4 {E:DO}(h:Xj5 K t E):Xey K t (Yot E):=λF0 H0 F H Y M P Q e w q=>h F0 H0 F H Y M _ Q e w λd v F' H' p x r=>by
 obtain⟨F'',x',_,r'⟩:=r.frz x
 exact q _ v F'' H' p x' r'
mutual
def D.lf:D->Bool
 | .tup ds=>D.lfs ds
 | .lst _=>false
 | .dic=>false
 | .exc _=>false
 | .obj _ _ _=>false
 |_=>true
def D.lfs:List D->Bool
 | []=>true
 |d::ds=>d.lf && D.lfs ds
end
def Xu8 (F H:Hp):Hp:=λa=>match F a with
 |some o=>some o
 |none=>match H a with
  |some o=>if imm o=true then some o else none
  |none=>none
theorem Xfy {F H:Hp}(s:Xbi F H):Ext F H (Xu8 F H) H:=by
 refine⟨λb o e=>?_,Xbi.refl _,λb o e=>?_,λa o e1 e2 e3=>?_⟩
 .unfold Xu8;rw[e]
 .unfold Xu8 at e
  cases q:F b with
  |some o'=>rw[q]at e;rw[<- e];exact s _ _ q
  |none=>
   rw[q]at e
   cases q2:H b with
   |none=>rw[q2]at e;cases e
   |some o'=>
    rw[q2]at e
    dsimp only at e
    split at e
    .exact e
    .cases e
 .unfold Xu8;rw[e1,e2]
  dsimp only
  rw[e3];rfl
theorem Xwx {F H:Hp}(s:Xbi F H){a:Addr}{o:HO}(h:H a=some o)(hi:imm o=true):Xu8 F H a=some o:=by
 unfold Xu8
 cases q:F a with
 |some o'=>rw[s _ _ q]at h;exact h
 |none=>rw[h];dsimp only;rw[hi];rfl
theorem Ybr {F H:Hp}(s:Xbi F H){a:Addr}{xs:List V}(h:SqT K H a xs):SqT K (Xu8 F H) a xs:=by
 rcases h with (h | ⟨o,h⟩) |h
 .exact .inl (.inl (Xwx s h rfl))
 .exact .inl (.inr ⟨o,Xwx s h rfl⟩)
 .exact .inr h
mutual
theorem Rep.lf {F H:Hp}(s:Xbi F H):∀{d:D} {v:V},Rep K H d v->d.lf=true->Rep K (Xu8 F H) d v
 | .int _,_,h,_=>h
 | .bl _,_,h,_=>h
 | .non,_,h,_=>h
 | .str _,_,h,_=>h
 | .ty _,_,h,_=>h
 | .fn _,_,h,_=>h
 | .tup ds,v,h,z=>by
  obtain⟨a,vs,e,h1,h2⟩:=h
  exact⟨a,vs,e,Ybr s h1,Xb6.lf s h2 (by simpa[D.lf] using z)⟩
 | .lst ds,v,h,z=>by simp[D.lf]at z
 | .dic,v,h,z=>by simp[D.lf]at z
 | .exc _,v,h,z=>by simp[D.lf]at z
 | .obj _ _ _,v,h,z=>by simp[D.lf]at z
theorem Xb6.lf {F H:Hp}(s:Xbi F H):∀{ds:List D} {vs:List V},Xb6 K H ds vs->D.lfs ds=true->Xb6 K (Xu8 F H) ds vs
 | [],_,h,_=>h
 |d::ds,vs,h,z=>by
  obtain⟨v,r,e,h1,h2⟩:=h
  simp[D.lfs]at z
  exact⟨v,r,e,Rep.lf s h1 z.1,Xb6.lf s h2 z.2⟩
end
theorem D.lfs_eq:∀(ds:List D),D.lfs ds=ds.all D.lf
 | []=>rfl
 |d::ds=>by simp[D.lfs,D.lfs_eq ds]
def dLf (E:DE):DE:=λM P=>E M λd=>d.lf=true/\P d
theorem Ydc (h:Xhv K t E):Xey K t (dLf E):=λF0 H0 F H Y M P Q e w q=>h F0 H0 F H Y M _ Q e w λd v F' H' p x r=>
 q d v _ H' p.2 (x.trans (Xfy x.fh)) (Rep.lf x.fh r p.1)
def dV (i:Nat):DE:=λM P=>match M[i]? with
 |some (some (.own (.fz d)))=>P d
 |some (some (.own (.fx _ d)))=>P d
 |_=>False
def dB (i:Nat):DE:=λM P=>match M[i]? with
 |some (some (.own t))=>P t.val
 |some (some (.bw d))=>P d
 |_=>False
theorem Xag {i:Nat}:Xey K (Xm7 i) (dV i):=λF0 H0 F H Y M P Q ⟨A,e⟩ w q=>by
 unfold dV at w
 split at w
 .rename_i d hd
  obtain⟨v,h1,h2⟩:=e.own i _ hd
  exact⟨v,h1,q d v F H w (Ext.refl e.ext.fh) h2.2⟩
 .rename_i u d hd
  obtain⟨v,h1,h2⟩:=e.own i _ hd
  exact⟨v,h1,q d v F H w (Ext.refl e.ext.fh) h2.2.2⟩
 .exact w.elim
theorem Xac {i:Nat}:Xhv K (Xm7 i) (dB i):=λF0 H0 F H Y M P Q ⟨A,e⟩ w q=>by
 unfold dB at w
 split at w
 .rename_i t hd
  obtain⟨v,h1,h2⟩:=e.own i _ hd
  exact⟨v,h1,q _ v F H w (Ext.refl e.ext.fh) (h2.rep e.ext.fh λa _ xs z=>z)⟩
 .rename_i d hd
  obtain⟨v,h1,h2⟩:=e.bw i _ hd
  exact⟨v,h1,q _ v F H w (Ext.refl e.ext.fh) (h2.mono e.ext.hh)⟩
 .exact w.elim
def dC (d:D):DE:=λ_ P=>P d
theorem Yj2 {v:V}{d:D}(h:∀F,Rep K F d v):Xey K (tC v) (dC d):=λF0 H0 F H Y M P Q e w q=>q d v F H w (Ext.refl e.ext.fh) (h _)
theorem Xae {i:Int}:Xey K (tC (.int i)) (dC (.int i)):=Yj2 λ_=>rfl
theorem Xkk {b:Bool}:Xey K (tC (.bl b)) (dC (.bl b)):=Yj2 λ_=>rfl
theorem Xv3:Xey K (tC .non) (dC .non):=Yj2 λ_=>rfl
theorem Xif {x:Str}:Xey K (tC (.str x)) (dC (.str x)):=Yj2 λ_=>rfl
theorem Xsf {n:String}:Xey K (tC (.ty n)) (dC (.ty n)):=Yj2 λ_=>rfl
abbrev DR2:=D->D->(D->Prop)->Prop
def OpS (K:Frag)(R:R2)(r:DR2):Prop:=∀F H x y v u P Q,Xbi F H->Rep K H x v->Rep K H y u->r x y P->(∀d w F' H',P d->Ext F H F' H'->Rep K F' d w->Q w H')->R v u H Q
def OpB (K:Frag)(R:R2)(r:DR2):Prop:=∀H x y v u P Q,Rep K H x v->Rep K H y u->r x y P->(∀d w,P d->Rep K H d w->Q w H)->R v u H Q
def dOp (r:DR2)(Ea Eb:DE):DE:=λM P=>Ea M λx=>Eb M λy=>r x y P
theorem Xaq {R:R2}{r:DR2}(h:OpS K R r)(ha:Xhv K ta Ea)(hb:Xhv K tb Eb):Xey K (tOp R ta tb) (dOp r Ea Eb):=λF0 H0 F H Y M P Q e w q=>
 ha F0 H0 F H Y M _ _ e w λx v F1 H1 w1 x1 r1=>hb F0 H0 F1 H1 Y M _ _ (e.on x1) w1 λy u F2 H2 w2 x2 r2=>
  h F2 H2 x y v u P _ x2.fh (r1.mono x2.hh) r2 w2 λd w F' H' p x' r'=>q d w F' H' p (x1.trans (x2.trans x')) r'
theorem Xbe {R:R2}{r:DR2}(h:OpB K R r)(ha:Xhv K ta Ea)(hb:Xhv K tb Eb):Xhv K (tOp R ta tb) (dOp r Ea Eb):=λF0 H0 F H Y M P Q e w q=>
 ha F0 H0 F H Y M _ _ e w λx v F1 H1 w1 x1 r1=>hb F0 H0 F1 H1 Y M _ _ (e.on x1) w1 λy u F2 H2 w2 x2 r2=>
  h H2 x y v u P _ (r1.mono x2.hh) r2 w2 λd w p r'=>q d w F2 H2 p (x1.trans x2) r'
def rI2 (g:Int->Int->D):DR2:=λx y P=>match x,y with
 | .int i,.int j=>P (g i j)
 |_,_=>False
def Ykb (C:Int->Int->Prop)(g:Int->Int->D):DR2:=λx y P=>match x,y with
 | .int i,.int j=>C i j/\P (g i j)
 |_,_=>False
theorem Yaa {g:Int->Int->D}{x y:D}{P:D->Prop}(h:rI2 g x y P):∃i j,x = .int i/\y = .int j/\P (g i j):=by
 unfold rI2 at h
 split at h
 .exact ⟨_,_,rfl,rfl,h⟩
 .exact h.elim
theorem Ydj {C:Int->Int->Prop}{g:Int->Int->D}{x y:D}{P:D->Prop}(h:Ykb C g x y P):∃i j,x = .int i/\y = .int j/\C i j/\P (g i j):=by
 unfold Ykb at h
 split at h
 .exact ⟨_,_,rfl,rfl,h.1,h.2⟩
 .exact h.elim
theorem Ykv {g:Int->Int->V}{g':Int->Int->D}(hg:∀F i j,Rep K F (g' i j) (g i j)):OpS K (rI0 g) (rI2 g'):=λF H x y v u P Q s rx ry w q=>by
 obtain⟨i,j,rfl,rfl,p⟩:=Yaa w
 exact⟨i,j,rx,ry,q _ _ F H p (Ext.refl s) (hg _ _ _)⟩
theorem Ypj {C:Int->Int->Prop}{g:Int->Int->V}{g':Int->Int->D}(hg:∀F i j,Rep K F (g' i j) (g i j)):OpS K (rI C g) (Ykb C g'):=λF H x y v u P Q s rx ry w q=>by
 obtain⟨i,j,rfl,rfl,c,p⟩:=Ydj w
 exact⟨i,j,rx,ry,c,q _ _ F H p (Ext.refl s) (hg _ _ _)⟩
theorem Xb5 {g:Int->Int->Int}:OpS K (rI0 λi j=>.int (g i j)) (rI2 λi j=>.int (g i j)):=Ykv λ_ _ _=>rfl
theorem Xdd {C:Int->Int->Prop}{g:Int->Int->Int}:OpS K (rI C λi j=>.int (g i j)) (Ykb C λi j=>.int (g i j)):=Ypj λ_ _ _=>rfl
theorem Xf9 {g:Int->Int->Bool}:OpS K (rI0 λi j=>.bl (g i j)) (rI2 λi j=>.bl (g i j)):=Ykv λ_ _ _=>rfl
def Ym1:DR2:=λx y P=>match x,y with
 | .int i,.int j=>P (.bl (decide (i=j)))
 | .str i,.str j=>P (.bl (decide (i=j)))
 | .bl i,.bl j=>P (.bl (decide (i=j)))
 |_,_=>False
def Ymz:DR2:=λx y P=>match x,y with
 | .int i,.int j=>P (.bl (!decide (i=j)))
 | .str i,.str j=>P (.bl (!decide (i=j)))
 | .bl i,.bl j=>P (.bl (!decide (i=j)))
 |_,_=>False
theorem Yeu {i j:Int}:decide (V.int i=V.int j)=decide (i=j):=by
 by_cases h:i=j
 .subst h;simp
 .rw [decide_eq_false h,decide_eq_false λz=>h (by injection z)]
theorem Yet {i j:Str}:decide (V.str i=V.str j)=decide (i=j):=by
 by_cases h:i=j
 .subst h;simp
 .rw [decide_eq_false h,decide_eq_false λz=>h (by injection z)]
theorem Yje {i j:Bool}:decide (V.bl i=V.bl j)=decide (i=j):=by
 by_cases h:i=j
 .subst h;simp
 .rw [decide_eq_false h,decide_eq_false λz=>h (by injection z)]
theorem Xlq:OpS K rEq Ym1:=λF H x y v u P Q s rx ry w q=>by
 unfold Ym1 at w
 split at w
 .cases rx;cases ry;exact⟨rfl,by rw[Yeu];exact q _ _ F H w (Ext.refl s) rfl⟩
 .cases rx;cases ry;exact⟨rfl,by rw[Yet];exact q _ _ F H w (Ext.refl s) rfl⟩
 .cases rx;cases ry;exact⟨rfl,by rw[Yje];exact q _ _ F H w (Ext.refl s) rfl⟩
 .exact w.elim
theorem Xx2:OpS K rNe Ymz:=λF H x y v u P Q s rx ry w q=>by
 unfold Ymz at w
 split at w
 .cases rx;cases ry;exact⟨rfl,by rw[Yeu];exact q _ _ F H w (Ext.refl s) rfl⟩
 .cases rx;cases ry;exact⟨rfl,by rw[Yet];exact q _ _ F H w (Ext.refl s) rfl⟩
 .cases rx;cases ry;exact⟨rfl,by rw[Yje];exact q _ _ F H w (Ext.refl s) rfl⟩
 .exact w.elim
def D.isNon:D->Bool
 | .non=>true
 |_=>false
def Ym0:DR2:=λx y P=>match y with
 | .non=>P (.bl x.isNon)
 |_=>False
def Yhk:DR2:=λx y P=>match y with
 | .non=>P (.bl (!x.isNon))
 |_=>False
theorem Xtb {F:Hp}:∀{x:D} {v:V},Rep K F x v->decide (v = .non)=x.isNon
 | .int _,_,h=>by rw[show _=V.int _ from h];rfl
 | .bl _,_,h=>by rw[show _=V.bl _ from h];rfl
 | .non,_,h=>by rw[show _=V.non from h];rfl
 | .str _,_,h=>by rw[show _=V.str _ from h];rfl
 | .ty _,_,h=>by rw[show _=V.ty _ from h];rfl
 | .fn _,_,h=>by obtain⟨f,rfl,_⟩:=h;rfl
 | .tup _,_,h=>by obtain⟨a,vs,rfl,_⟩:=h;rfl
 | .lst _,_,h=>by obtain⟨a,vs,rfl,_⟩:=h;rfl
 | .dic,_,h=>by obtain⟨a,rfl,_⟩:=h;rfl
 | .exc _,_,h=>by obtain⟨a,C,rfl,_⟩:=h;rfl
 | .obj _ _ _,_,h=>by obtain⟨a,C,dx,vs,rfl,_⟩:=h;rfl
theorem Ykt:OpS K (λx y H Q=>y = .non/\Q (.bl (decide (x = .non))) H) Ym0:=λF H x y v u P Q s rx ry w q=>by
 unfold Ym0 at w
 split at w
 .refine ⟨ry,?_⟩
  rw[Xtb rx]
  exact q _ _ F H w (Ext.refl s) rfl
 .exact w.elim
theorem Yh2:OpS K (λx y H Q=>y = .non/\Q (.bl (!decide (x = .non))) H) Yhk:=λF H x y v u P Q s rx ry w q=>by
 unfold Yhk at w
 split at w
 .refine ⟨ry,?_⟩
  rw[Xtb rx]
  exact q _ _ F H w (Ext.refl s) rfl
 .exact w.elim
def dUn (r:D->(D->Prop)->Prop)(Ea:DE):DE:=λM P=>Ea M λx=>r x P
def rU1 (g:Int->D):D->(D->Prop)->Prop:=λx P=>match x with
 | .int i=>P (g i)
 |_=>False
theorem Xl9 {g:Int->Int}(ha:Xhv K ta Ea):Xey K (tUn (rU λi=>.int (g i)) ta) (dUn (rU1 λi=>.int (g i)) Ea):=λF0 H0 F H Y M P Q e w q=>
 ha F0 H0 F H Y M _ _ e w λx v F1 H1 w1 x1 r1=>by
  unfold rU1 at w1
  split at w1
  .exact ⟨_,r1,q _ _ F1 H1 w1 x1 rfl⟩
  .exact w1.elim
def dTb (E:DE):DT:=λM P=>E M λd=>match d with
 | .bl b=>P b
 |_=>False
theorem Yjv (h:Xey K t E):∀(F0 H0 F H:Hp) (Y:St) (M:Dst) (P:Bool->Prop) (Q:Bool->Hp->Prop),Xfo K F0 H0 F H Y M->dTb E M P->(∀b F' H',P b->Ext F H F' H'->Q b H')->t Y H λx H'=>∃k,x = .bl k/\Q k H':=λF0 H0 F H Y M P Q e w q=>
 h F0 H0 F H Y M _ _ e w λd v F' H' p x r=>by
  try dsimp only at p
  split at p
  .exact ⟨_,r,q _ F' H' p x⟩
  .exact p.elim
theorem Xbp (h:Xey K t E):Xw9 K (Yji t) (dTb E):=Yjv h
theorem Xmk (h:Xey K t E):Xw9 K (tB t) (dTb E):=Yjv h
section
variable {ua ub:TT}{Ca Cb:DT}
def Yoz (C:DT):DT:=λM P=>C M λb=>P (!b)
def Yo6 (Ca Cb:DT):DT:=λM P=>Ca M λb=>if b=true then Cb M P else P false
def dOr (Ca Cb:DT):DT:=λM P=>Ca M λb=>if b=true then P true else Cb M P
theorem Xdj (h:Xw9 K ua Ca):Xw9 K (Yny ua) (Yoz Ca):=λF0 H0 F H Y M P Q e w q=>h F0 H0 F H Y M _ _ e w λb F' H' p x=>q _ F' H' p x
theorem Ye5 (h:Xw9 K ua Ca)(g:Xw9 K ub Cb):Xw9 K (Yn2 ua ub) (Yo6 Ca Cb):=λF0 H0 F H Y M P Q e w q=>h F0 H0 F H Y M _ _ e w λb F' H' p x=>by
 cases b with
 |true=>exact Yij (g F0 H0 F' H' Y M P Q (e.on x) p λb F2 H2 p2 x2=>q b F2 H2 p2 (x.trans x2))
 |false=>exact Yik rfl (q _ F' H' p x)
theorem Xnp (h:Xw9 K ua Ca)(g:Xw9 K ub Cb):Xw9 K (tOr ua ub) (dOr Ca Cb):=λF0 H0 F H Y M P Q e w q=>h F0 H0 F H Y M _ _ e w λb F' H' p x=>by
 cases b with
 |true=>exact Yij (q _ F' H' p x)
 |false=>exact Yik rfl (g F0 H0 F' H' Y M P Q (e.on x) p λb F2 H2 p2 x2=>q b F2 H2 p2 (x.trans x2))
def dIf (C:DT)(Ea Eb:DE):DE:=λM P=>C M λb=>if b=true then Ea M P else Eb M P
theorem Yj1 (h:Xw9 K ua Ca)(ha:Xey K ta Ea)(hb:Xey K tb Eb):Xey K (tIf ua ta tb) (dIf Ca Ea Eb):=λF0 H0 F H Y M P Q e w q=>h F0 H0 F H Y M _ _ e w λb F' H' p x=>by
 cases b with
 |true=>exact Yij (ha F0 H0 F' H' Y M P Q (e.on x) p λd v F2 H2 p2 x2 r=>q d v F2 H2 p2 (x.trans x2) r)
 |false=>exact Yik rfl (hb F0 H0 F' H' Y M P Q (e.on x) p λd v F2 H2 p2 x2 r=>q d v F2 H2 p2 (x.trans x2) r)
end
def Yl4 (Ea Eb:DE):DE:=λM P=>Ea M λx=>match x with
 | .bl c=>if c=true then Eb M P else P (.bl false)
 |_=>False
def Ylu (Ea:DE):DE:=λM P=>Ea M λx=>match x with
 | .bl c=>P (.bl (!c))
 |_=>False
theorem Xqo (ha:Xey K ta Ea)(hb:Xey K tb Eb):Xey K (Yjq ta tb) (Yl4 Ea Eb):=λF0 H0 F H Y M P Q e w q=>ha F0 H0 F H Y M _ _ e w λd v F' H' p x r=>by
 try dsimp only at p
 split at p
 .rename_i c
  refine⟨c,r,?_⟩
  cases c with
  |true=>exact Yij (hb F0 H0 F' H' Y M P Q (e.on x) p λd v F2 H2 p2 x2 r=>q d v F2 H2 p2 (x.trans x2) r)
  |false=>exact Yik rfl (q _ _ F' H' p x rfl)
 .exact p.elim
theorem Yg7 (ha:Xey K ta Ea):Xey K (Yjl ta) (Ylu Ea):=λF0 H0 F H Y M P Q e w q=>ha F0 H0 F H Y M _ _ e w λd v F' H' p x r=>by
 try dsimp only at p
 split at p
 .exact ⟨_,r,q _ _ F' H' p x rfl⟩
 .exact p.elim
def Yf8 (r r':DR2)(Ea Eb Ec:DE):DE:=λM P=>Ea M λx=>Eb M λy=>r x y λz=>match z with
 | .bl k=>if k=true then Ec M λw=>r' y w P else P (.bl false)
 |_=>False
theorem Xv4 {R R':R2}{r r':DR2}(h:OpS K R r)(h':OpS K R' r')(ha:Xhv K ta Ea)(hb:Xhv K tb Eb)(hc:Xhv K tc Ec):Xey K (Ye1 R R' ta tb tc) (Yf8 r r' Ea Eb Ec):=λF0 H0 F H Y M P Q e w q=>
 ha F0 H0 F H Y M _ _ e w λx v F1 H1 w1 x1 r1=>hb F0 H0 F1 H1 Y M _ _ (e.on x1) w1 λy u F2 H2 w2 x2 r2=>
  h F2 H2 x y v u _ _ x2.fh (r1.mono x2.hh) r2 w2 λd w F3 H3 p x3 r3=>by
   have x13:=x1.trans (x2.trans x3)
   try dsimp only at p
   split at p
   .rename_i k
    refine⟨k,r3,?_⟩
    cases k with
    |true=>exact Yij (hc F0 H0 F3 H3 Y M _ _ (e.on x13) p λz w4 F4 H4 p4 x4 r4=>h' F4 H4 y z u w4 P Q x4.fh (r2.mono (x3.hh.trans x4.hh)) r4 p4 λd w F5 H5 p5 x5 r5=>q d w F5 H5 p5 (x13.trans (x4.trans x5)) r5)
    |false=>exact Yik rfl (q _ _ F3 H3 p x13 rfl)
   .exact p.elim
section
variable {a:TA}{As:DA}
def Ynk:DA:=λ_ P=>P []
def Yiv (Ea:DE)(As:DA):DA:=λM P=>Ea M λd=>As M λds=>P (d::ds)
theorem Xan:Xos K Xvq Ynk:=λF0 H0 F H Y M P Q e w q=>q [] [] F H w (Ext.refl e.ext.fh) rfl
theorem Xak:Xiy K Xvq Ynk:=λF0 H0 F H Y M P Q e w q=>q [] [] F H w (Ext.refl e.ext.fh) rfl
theorem Xai (ha:Xhv K ta Ea)(hr:Xos K a As):Xos K (Xla ta a) (Yiv Ea As):=λF0 H0 F H Y M P Q e w q=>ha F0 H0 F H Y M _ _ e w λd v F1 H1 w1 x1 r1=>
 hr F0 H0 F1 H1 Y M _ _ (e.on x1) w1 λds vs F2 H2 w2 x2 r2=>q (d::ds) (v::vs) F2 H2 w2 (x1.trans x2) ⟨v,vs,rfl,r1.mono x2.hh,r2⟩
theorem Xab (ha:Xey K ta Ea)(hr:Xiy K a As):Xiy K (Xla ta a) (Yiv Ea As):=λF0 H0 F H Y M P Q e w q=>ha F0 H0 F H Y M _ _ e w λd v F1 H1 w1 x1 r1=>
 hr F0 H0 F1 H1 Y M _ _ (e.on x1) w1 λds vs F2 H2 w2 x2 r2=>q (d::ds) (v::vs) F2 H2 w2 (x1.trans x2) ⟨v,vs,rfl,r1.mono x2.ff,r2⟩
def Ylw:DAO:=λ_ P=>P []
def Yf6 (Ea:DO)(As:DAO):DAO:=λM P=>Ea M λd=>As M λds=>P (d::ds)
theorem Xb7:Yer K Xvq Ylw:=λF0 H0 F H Y M P Q e w q=>q [] [] F H w (Ext.refl e.ext.fh) ⟨[],⟨rfl,rfl⟩,nodup_nil,λ_ h=>by cases h⟩
theorem Xby {Eo:DO}{Ao:DAO}(ha:Xj5 K ta Eo)(hr:Yer K a Ao):Yer K (Xla ta a) (Yf6 Eo Ao):=λF0 H0 F H Y M P Q e w q=>ha F0 H0 F H Y M _ _ e w λd v F1 H1 w1 x1 r1=>
 hr F0 H0 F1 H1 Y M _ _ (e.on x1) w1 λds vs F2 H2 w2 x2 r2=>q (d::ds) (v::vs) F2 H2 w2 (x1.trans x2) (by
  obtain⟨A,a1,a2,a3⟩:=r1
  obtain⟨B,b1,b2,b3⟩:=r2
  refine⟨A++B,⟨v,vs,A,B,rfl,rfl,a1.frame x2.ff λa _ xs e=>x2.hh _ _ e,b1⟩,nodup_append.mpr ⟨a2,b2,λx hx y hy z=>?_⟩,λz hz=>?_⟩
  .subst z
   obtain⟨xs,hxs,_⟩:=a1.isl _ hx
   rw[(b3 _ hy).1]at hxs;cases hxs
  .rcases mem_append.mp hz with h |h
   .obtain ⟨xs,hxs,hxi⟩:=a1.isl _ h
    exact⟨(a3 z h).1,x2.no z _ (a3 z h).2 hxs hxi⟩
   .exact ⟨x1.hh.free (b3 z h).1,(b3 z h).2⟩)
def You (As:DA):DE:=λM P=>As M λds=>ds.length<=1000000/\P (.tup ds)
theorem Xdp {n:Nat}(h:n<=1000000):n<=sizeLine:=by rw[sizeLine_eq];omega
theorem Xy0 {n:Nat}(h:n<1000000):n<sizeLine:=by rw[sizeLine_eq];omega
theorem Ext.new {F H H':Hp}{p:Addr}{o:HO}(s:Xbi F H)(hp:H p=none)(hs:Xbi H H')(h:H' p=some o):Ext F H (upd F p o) H':=by
 refine⟨λb u e=>?_,hs,λb u e=>?_,λb u e1 e2 e3=>?_⟩
 .rw [Xcp λz=>by rw[z,s.free hp]at e;cases e];exact e
 .by_cases hb:b=p
  .subst hb;rw[Xa3]at e;rw[<- e];exact h
  .rw [Xcp hb]at e;exact hs _ _ (s _ _ e)
 .rw [Xcp λz=>by rw[z,hp]at e2;cases e2];exact e1
theorem Xbi.upd' {F:Hp}{p:Addr}{o:HO}(h:F p=none):Xbi F (upd F p o):=Xbi.new h
theorem Xbx (h:Xiy K a As):Xey K (Yjh a) (You As):=λF0 H0 F H Y M P Q e w q=>h F0 H0 F H Y M _ _ e w λds vs F1 H1 w1 x1 r1=>by
 have hl:=r1.length
 refine⟨Xdp (by omega),λp H' hp hs he=>?_⟩
 exact q _ _ _ H' w1.2 (x1.trans (Ext.new x1.fh hp hs he)) ⟨p,vs,rfl,.inl (.inl Xa3),r1.mono (Xbi.upd' (x1.fh.free hp))⟩
def Yo0 (As:DAO):DO:=λM P=>As M λts=>ts.length<=1000000/\P (.nl ts)
theorem Xc4 {Ao:DAO}(h:Yer K a Ao):Xj5 K (Yjo a) (Yo0 Ao):=λF0 H0 F H Y M P Q e w q=>h F0 H0 F H Y M _ _ e w λts vs F1 H1 w1 x1 r1=>by
 obtain⟨A,a1,a2,a3⟩:=r1
 have hl:=a1.length
 refine⟨Xdp (by omega),λp H' hp hs he=>?_⟩
 refine q _ _ F1 H' w1.2 (x1.trans ⟨Xbi.refl _,hs,x1.fh.trans hs,λ_ _ z _ _=>z⟩) ⟨p::A,⟨p,vs,A,rfl,rfl,he,a1.frame (Xbi.refl _) λb _ xs z=>hs _ _ z⟩,nodup_cons.mpr ⟨λz=>?_,a2⟩,λb hb=>?_⟩
 .obtain ⟨xs,z,_⟩:=a1.isl p z
  rw[hp]at z;cases z
 .rcases mem_cons.mp hb with rfl |hb
  .exact ⟨x1.hh.free hp,x1.fh.free hp⟩
  .exact a3 b hb
end
end
section
variable {K:Frag}{t ta tb tc:TE}{E Ea Eb Ec:DE}{a:TA}{As:DA}{Ao:DAO}
theorem Xb6.atI {F:Hp}{ds:List D}{vs:List V}{i:Int}{d:D}(h:Xb6 K F ds vs)(e:L2.atI ds i=some d):∃v,L2.atI vs i=some v/\Rep K F d v:=by
 unfold L2.atI at e ⊢
 rw[h.length]at e
 cases q:ixN vs.length i with
 |none=>rw[q]at e;cases e
 |some j=>
  rw[q]at e
  exact h.get e
def ixL:DR2:=λx y P=>match x,y with
 | .lst ds,.int i=>∃d,atI ds i=some d/\P d
 |_,_=>False
def ixT:DR2:=λx y P=>match x,y with
 | .tup ds,.int i=>∃d,atI ds i=some d/\P d
 |_,_=>False
def ixS:DR2:=λx y P=>match x,y with
 | .str z,.int i=>z.length<=1000000/\∃c,atI z.cps.toList i=some c/\P (.str ⟨#[c]⟩)
 |_,_=>False
def OpF (K:Frag)(R:R2)(r:DR2):Prop:=∀F H x y v u P Q,Xbi F H->Rep K F x v->Rep K F y u->r x y P->(∀d w,P d->Rep K F d w->Q w H)->R v u H Q
theorem OpF.b {R:R2}{r:DR2}(h:OpF K R r):OpB K R r:=λH x y v u P Q rx ry w q=>h H H x y v u P Q (Xbi.refl _) rx ry w q
theorem Xbj {R:R2}{r:DR2}(h:OpF K R r)(ha:Xey K ta Ea)(hb:Xey K tb Eb):Xey K (tOp R ta tb) (dOp r Ea Eb):=λF0 H0 F H Y M P Q e w q=>
 ha F0 H0 F H Y M _ _ e w λx v F1 H1 w1 x1 r1=>hb F0 H0 F1 H1 Y M _ _ (e.on x1) w1 λy u F2 H2 w2 x2 r2=>
  h F2 H2 x y v u P _ x2.fh (r1.mono x2.ff) r2 w2 λd w p r'=>q d w F2 H2 p (x1.trans x2) r'
theorem Xch:OpF K (Ymh K) ixL:=λF H x y v u P Q s rx ry w q=>by
 unfold ixL at w
 split at w
 .obtain ⟨d,e,w⟩:=w
  obtain⟨p,vs,rfl,h1,h2⟩:=rx
  obtain⟨v',e',r⟩:=h2.atI e
  exact⟨p,vs,_,v',rfl,ry,s.seq h1,e',q d v' w r⟩
 .exact w.elim
theorem Xar:OpF K (Yod K) ixT:=λF H x y v u P Q s rx ry w q=>by
 unfold ixT at w
 split at w
 .obtain ⟨d,e,w⟩:=w
  obtain⟨p,vs,rfl,h1,h2⟩:=rx
  obtain⟨v',e',r⟩:=h2.atI e
  exact⟨p,vs,_,v',rfl,ry,s.seqT h1,e',q d v' w r⟩
 .exact w.elim
def CbS (K:Frag)(R:List V->Hp->VK->Prop)(r:List D->(D->Prop)->Prop):Prop:=∀F H ds vs P Q,Xbi F H->Xb6 K H ds vs->r ds P->(∀d w F' H',P d->Ext F H F' H'->Rep K F' d w->Q w H')->R vs H Q
def CbO (K:Frag)(R:List V->Hp->VK->Prop)(r:List D->(OV->Prop)->Prop):Prop:=∀F H ds vs P Q,Xbi F H->Xb6 K F ds vs->r ds P->(∀o w F' H',P o->Ext F H F' H'->Xpc K H F' H' o w->Q w H')->R vs H Q
def dCB (r:List D->(D->Prop)->Prop)(As:DA):DE:=λM P=>As M λds=>r ds P
def Yo5 (r:List D->(OV->Prop)->Prop)(As:DA):DO:=λM P=>As M λds=>r ds P
theorem Xb0 {R:List V->Hp->VK->Prop}{r:List D->(D->Prop)->Prop}(h:CbS K R r)(ha:Xos K a As):Xey K (tCB R a) (dCB r As):=λF0 H0 F H Y M P Q e w q=>
 ha F0 H0 F H Y M _ _ e w λds vs F1 H1 w1 x1 r1=>h F1 H1 ds vs P _ x1.fh r1 w1 λd w F' H' p x' r'=>q d w F' H' p (x1.trans x') r'
theorem Yc6 {R:List V->Hp->VK->Prop}{r:List D->(OV->Prop)->Prop}(h:CbO K R r)(ha:Xiy K a As):Xj5 K (tCB R a) (Yo5 r As):=λF0 H0 F H Y M P Q e w q=>
 ha F0 H0 F H Y M _ _ e w λds vs F1 H1 w1 x1 r1=>h F1 H1 ds vs P _ x1.fh r1 w1 λd w F' H' p x' r'=>q d w F' H' p (x1.trans x') (r'.old x1.hh)
theorem Xhf {F:Hp}{d:D}{vs:List V}(h:Xb6 K F [d] vs):∃v,vs=[v]/\Rep K F d v:=by
 obtain⟨v,r,rfl,h1,h2⟩:=h
 exact⟨v,by rw[show r=[] from h2],h1⟩
theorem Xz4 {F:Hp}{d d':D}{vs:List V}(h:Xb6 K F [d,d'] vs):∃v u,vs=[v,u]/\Rep K F d v/\Rep K F d' u:=by
 obtain⟨v,r,rfl,h1,h2⟩:=h
 obtain⟨u,rfl,h3⟩:=Xhf h2
 exact⟨v,u,rfl,h1,h3⟩
def Yna:List D->(D->Prop)->Prop:=λds P=>match ds with
 | [.lst xs]=>P (.int xs.length)
 | [.tup xs]=>P (.int xs.length)
 |_=>False
def Ym9:List D->(D->Prop)->Prop:=λds P=>match ds with
 | [.str x]=>x.length<=1000000/\P (.int x.length)
 |_=>False
theorem Xcx:CbS K (λxs H Q=>∃p ys,xs=[.ref p]/\(SqL K H p ys∨SqT K H p ys)/\Q (.int ys.length) H) Yna:=λF H ds vs P Q s rs w q=>by
 unfold Yna at w
 split at w
 .obtain ⟨v,rfl,p,us,rfl,h1,h2⟩:=Xhf rs
  exact⟨p,us,rfl,.inl h1,by rw[<- h2.length];exact q _ _ F H w (Ext.refl s) rfl⟩
 .obtain ⟨v,rfl,p,us,rfl,h1,h2⟩:=Xhf rs
  exact⟨p,us,rfl,.inr h1,by rw[<- h2.length];exact q _ _ F H w (Ext.refl s) rfl⟩
 .exact w.elim
theorem Yca:CbS K (λxs H Q=>∃z,xs=[.str z]/\z.length<=sizeLine/\Q (.int z.length) H) Ym9:=λF H ds vs P Q s rs w q=>by
 unfold Ym9 at w
 split at w
 .obtain ⟨v,rfl,r⟩:=Xhf rs
  exact⟨_,by rw[show v=_ from r],Xdp w.1,q _ _ F H w.2 (Ext.refl s) rfl⟩
 .exact w.elim
def Ym7:List D->(D->Prop)->Prop:=λds P=>match ds with
 | [.int i,.int j]=>P (.int (max i j))
 |_=>False
theorem Yiy:CbS K (λxs H Q=>∃i j,xs=[.int i,.int j]/\Q (.int (if j > i then j else i)) H) Ym7:=λF H ds vs P Q s rs w q=>by
 unfold Ym7 at w
 split at w
 .rename_i i j
  obtain⟨v,u,rfl,r1,r2⟩:=Xz4 rs
  refine⟨i,j,by rw[show v=_ from r1,show u=_ from r2],?_⟩
  rw[show (if j > i then j else i)=max i j by split<;>omega]
  exact q _ _ F H w (Ext.refl s) rfl
 .exact w.elim
def Ynd:List D->(D->Prop)->Prop:=λds P=>match ds with
 | [.int i]=>P (.int i)
 | [.bl b]=>P (.int (if b then 1 else 0))
 |_=>False
theorem Xw4:CbS K (λxs H Q=>(∃i,xs=[.int i]/\Q (.int i) H)∨∃k,xs=[.bl k]/\Q (.int (if k then 1 else 0)) H) Ynd:=λF H ds vs P Q s rs w q=>by
 unfold Ynd at w
 split at w
 .obtain ⟨v,rfl,r⟩:=Xhf rs
  exact .inl ⟨_,by rw[show v=_ from r],q _ _ F H w (Ext.refl s) rfl⟩
 .obtain ⟨v,rfl,r⟩:=Xhf rs
  exact .inr ⟨_,by rw[show v=_ from r],q _ _ F H w (Ext.refl s) rfl⟩
 .exact w.elim
def Ynp:List D->(D->Prop)->Prop:=λds P=>match ds with
 | [.int i]=>P (.int i.natAbs)
 |_=>False
theorem Ycb:CbS K (λxs H Q=>∃i,xs=[.int i]/\Q (.int (if i<0 then -i else i)) H) Ynp:=λF H ds vs P Q s rs w q=>by
 unfold Ynp at w
 split at w
 .rename_i i
  obtain⟨v,rfl,r⟩:=Xhf rs
  refine⟨i,by rw[show v=_ from r],?_⟩
  rw[show (if i<0 then -i else i)=(i.natAbs:Int) by split<;>omega]
  exact q _ _ F H w (Ext.refl s) rfl
 .exact w.elim
def Yib:List D->(OV->Prop)->Prop:=λds P=>match ds with
 | [.lst xs]=>P (.nl (xs.map .fz))
 | [.tup xs]=>P (.nl (xs.map .fz))
 |_=>False
theorem Xpc.list {H F' H':Hp}{l:Addr}{ds:List D}{vs:List V}(h0:H l=none)(f0:F' l=none)(h:H' l=some (.lst vs))(r:Xb6 K F' ds vs):Xpc K H F' H' (.nl (ds.map .fz)) (.ref l):=
 ⟨[l],⟨l,vs,[],rfl,rfl,h,Xa6.fzs r⟩,by simp,λa ha=>by
  have e:a=l:=by simpa using ha
  rw[e];exact⟨h0,f0⟩⟩
theorem Ext.grow {F H H':Hp}(s:Xbi F H)(h:Xbi H H'):Ext F H F H':=⟨Xbi.refl _,h,s.trans h,λ_ _ z _ _=>z⟩
theorem Xvk:CbO K (Yfk K) Yib:=λF H ds vs P Q s rs w q=>by
 unfold Yib at w
 split at w
 .obtain ⟨v,rfl,p,us,rfl,h1,h2⟩:=Xhf rs
  exact⟨p,us,rfl,.inl (s.seq h1),λl H' l0 sm l1=>q _ _ F H' w (Ext.grow s sm) (Xpc.list l0 (s.free l0) l1 h2)⟩
 .obtain ⟨v,rfl,p,us,rfl,h1,h2⟩:=Xhf rs
  exact⟨p,us,rfl,.inr (s.seqT h1),λl H' l0 sm l1=>q _ _ F H' w (Ext.grow s sm) (Xpc.list l0 (s.free l0) l1 h2)⟩
 .exact w.elim
def Ymo:List D->(OV->Prop)->Prop:=λds P=>match ds with
 | [.lst xs]=>P (.fz (.tup xs))
 |_=>False
theorem Yl8:CbO K (Xz9 K) Ymo:=λF H ds vs P Q s rs w q=>by
 unfold Ymo at w
 split at w
 .obtain ⟨v,rfl,p,us,rfl,h1,h2⟩:=Xhf rs
  exact⟨p,us,rfl,s.seq h1,λl H' l0 sm l1=>q _ _ _ H' w (Ext.new s l0 sm l1) (.fz ⟨l,us,rfl,.inl (.inl Xa3),h2.mono (Xbi.upd' (s.free l0))⟩)⟩
 .exact w.elim
abbrev DPt:=Dst->(Option Int->Prop)->Prop
def Ygh (K:Frag)(t:TO)(E:DPt):Prop:=∀F0 H0 F H Y M P Q,Xfo K F0 H0 F H Y M->E M P->(∀o F' H',P o->Ext F H F' H'->Q o H')->t Y H Q
def Ylv:DPt:=λ_ P=>P none
def dPt (E:DE):DPt:=λM P=>E M λd=>match d with
 | .int i=>P (some i)
 |_=>False
theorem Xxo:Ygh K Xyx Ylv:=λF0 H0 F H Y M P Q e w q=>q none F H w (Ext.refl e.ext.fh)
theorem Xi9 (h:Xhv K t E):Ygh K (Yjk t) (dPt E):=λF0 H0 F H Y M P Q e w q=>h F0 H0 F H Y M _ _ e w λd v F1 H1 w1 x1 r1=>by
 try dsimp only at w1
 split at w1
 .exact ⟨_,r1,q _ F1 H1 w1 x1⟩
 .exact w1.elim
def Xyk (xs:List D)(lo hi:Option Int):List D:=(xs.drop (HT.sIx xs.length 0 lo)).take (HT.sIx xs.length xs.length hi-HT.sIx xs.length 0 lo)
theorem Xb6.cut {F:Hp}{ds:List D}{vs:List V}(h:Xb6 K F ds vs)(lo hi:Option Int):Xb6 K F (Xyk ds lo hi) (Yce vs lo hi):=by
 unfold Xyk Yce
 rw[h.length]
 exact (h.drop _).take _
def Yox (Ea:DE)(L U:DPt):DO:=λM P=>Ea M λx=>L M λlo=>U M λhi=>match x with
 | .lst xs=>P (.nl ((Xyk xs lo hi).map .fz))
 |_=>False
theorem Xv2 {tl tu:TO}{L U:DPt}(ha:Xey K ta Ea)(hl:Ygh K tl L)(hu:Ygh K tu U):Xj5 K (tSl (Yoa K) ta tl tu) (Yox Ea L U):=λF0 H0 F H Y M P Q e w q=>
 ha F0 H0 F H Y M _ _ e w λx v F1 H1 w1 x1 r1=>hl F0 H0 F1 H1 Y M _ _ (e.on x1) w1 λlo F2 H2 w2 x2=>hu F0 H0 F2 H2 Y M _ _ ((e.on x1).on x2) w2 λhi F3 H3 w3 x3=>by
  have x13:=x1.trans (x2.trans x3)
  try dsimp only at w3
  split at w3
  .obtain ⟨p,vs,rfl,h1,h2⟩:=r1.mono (x2.ff.trans x3.ff)
   exact⟨p,vs,rfl,x3.fh.seq h1,λl H' l0 sm l1=>q _ _ F3 H' w3 (x13.trans (Ext.grow x3.fh sm)) (Xpc.list (x13.hh.free l0) (x3.fh.free l0) l1 (h2.cut lo hi))⟩
  .exact w3.elim
mutual
def OV.lf:OV->Bool
 | .fz d=>d.lf
 | .nl ts=>OV.lfs ts
 | .rt _ ts=>OV.lfs ts
 | .fx _ d=>d.lf
 | .ob _ _ _ ts=>OV.lfs ts
def OV.lfs:List OV->Bool
 | []=>true
 |t::ts=>t.lf && OV.lfs ts
end
theorem OV.lfs_eq:∀(ts:List OV),OV.lfs ts=ts.all OV.lf
 | []=>rfl
 |d::ds=>by simp[OV.lfs,OV.lfs_eq ds]
mutual
theorem Xm0.lf {F F' H':Hp}(s:Xbi F F'):∀{t:OV} {v:V} {A:List Addr},Xm0 K F' H' t v A->t.lf=true->Xm0 K (Xu8 F F') H' t v A
 | .fz d,v,A,h,z=>⟨h.1,Rep.lf s h.2 (by simpa[OV.lf] using z)⟩
 | .nl ts,v,A,h,z=>by
  obtain⟨a,vs,B,e,e2,h1,h2⟩:=h
  exact⟨a,vs,B,e,e2,h1,Xa6.lf s h2 (by simpa[OV.lf] using z)⟩
 | .fx u d,v,A,h,z=>⟨h.1,h.2.1,Rep.lf s h.2.2 (by simpa[OV.lf] using z)⟩
 | .rt a ts,v,A,h,z=>by
  obtain⟨vs,B,e,e2,h1,h2⟩:=h
  exact⟨vs,B,e,e2,h1,Xa6.lf s h2 (by simpa[OV.lf] using z)⟩
 | .ob o c ns ts,v,A,h,z=>by
  obtain⟨a,C,dx,vs,B,e,e2,h0,ho,h1,h2,hl,h3⟩:=h
  exact⟨a,C,dx,vs,B,e,e2,h0,ho,h1,h2,hl,Xa6.lf s h3 (by simpa[OV.lf] using z)⟩
theorem Xa6.lf {F F' H':Hp}(s:Xbi F F'):∀{ts:List OV} {vs:List V} {A:List Addr},Xa6 K F' H' ts vs A->OV.lfs ts=true->Xa6 K (Xu8 F F') H' ts vs A
 | [],_,_,h,_=>h
 |t::ts,vs,A,h,z=>by
  obtain⟨v,r,B,C,e1,e2,h1,h2⟩:=h
  simp[OV.lfs]at z
  exact⟨v,r,B,C,e1,e2,Xm0.lf s h1 z.1,Xa6.lf s h2 z.2⟩
end
abbrev DSp:=List D->(OV->Prop)->Prop
def spV (K:Frag)(n:Nat)(sp:DSp):Sp:=spL n λvs H Q=>∃F ds P,Xbi F H/\Xb6 K F ds vs/\sp ds P/\∀r v F' H',P r->Ext F H F' H'->Xpc K H F' H' r v->Q v H'
def Yl2 (n:Nat)(sp:DSp)(As:DA):DO:=λM P=>As M λds=>ds.length=n/\sp ds P
def Yga (n:Nat)(sp:DSp)(As:DA):DO:=λM P=>As M λds=>ds.length=n/\sp ds λr=>r.lf=true/\P r
theorem Xat {n:Nat}{sp:DSp}(ha:Xiy K a As):Xj5 K (Xt2 (spV K n sp) [] E0 a) (Yl2 n sp As):=λF0 H0 F H Y M P Q e w q=>ha F0 H0 F H Y M _ _ e w λds vs F1 H1 w1 x1 r1=>by
 rw[append_nil]
 exact⟨by rw[<- r1.length];exact w1.1,F1,ds,P,x1.fh,r1,w1.2,λr v F' H' p x' r'=>q r v F' H' p (x1.trans x') (r'.old x1.hh)⟩
theorem Xeq {n:Nat}{sp:DSp}(ha:Xos K a As):Xj5 K (Xt2 (spV K n sp) [] E0 a) (Yga n sp As):=λF0 H0 F H Y M P Q e w q=>ha F0 H0 F H Y M _ _ e w λds vs F1 H1 w1 x1 r1=>by
 rw[append_nil]
 refine⟨by rw[<- r1.length];exact w1.1,H1,ds,_,Xbi.refl _,r1,w1.2,λr v F' H' p x' r'=>?_⟩
 have s1:Xbi F1 F':=x1.fh.trans x'.ff
 have x2:=Xfy s1
 obtain⟨A,a1,a2,a3⟩:=r'
 refine q r v (Xu8 F1 F') H' p.2 (x1.trans ⟨x2.ff,x'.hh,x2.fh.trans x'.fh,λb o z1 z2 z3=>?_⟩) ⟨A,a1.lf s1 p.1,a2,λb hb=>⟨x1.hh.free (a3 b hb).1,x2.fh.free (a3 b hb).2⟩⟩
 exact x2.no b o z1 (x'.ff _ _ z2) z3
end
section
variable {K:Frag}{te ti ta:TE}{E Ea Ei:DE}{Eo:DO}{t u:TS}{T U:DS}
def Yjy:DS:=λDe M=>De.nx M
def Ymu (T U:DS):DS:=λDe M=>T {De with nx:=U De} M
theorem Xbf:Xfn K Yjm Yjy:=λF0 H0 F H Y M De E e l w=>l.nx F H Y M e w
theorem Xam (h:Xfn K t T)(g:Xfn K u U):Xfn K (Ynx t u) (Ymu T U):=λF0 H0 F H Y M De E e l w=>
 h F0 H0 F H Y M {De with nx:=U De} _ e ⟨λF1 H1 Y1 M1 e1 w1=>g F0 H0 F1 H1 Y1 M1 De E e1 l w1,l.bk,l.ct,l.rt⟩ w
def Yfg:DS:=λDe M=>De.bk M
theorem Yc4:Xfn K Ye2 Yfg:=λF0 H0 F H Y M De E e l w=>l.bk F H Y M e w
def Yn5 (E:DO):DS:=λDe M=>E M De.rt
theorem Xa4 (h:Xj5 K te Eo):Xfn K (Ymr te) (Yn5 Eo):=λF0 H0 F H Y M De En e l w=>h F0 H0 F H Y M _ _ e w λr v F' H' p x n=>l.rt F' H' r v (e.ext.trans x) (n.old e.ext.hh) p
def Yg2 (i:Nat):DS:=λDe M=>match M[i]? with
 |some (some (.own t))=>De.rt t
 |_=>False
theorem Xfh {i:Nat}:Xfn K (Ymr (Xm7 i)) (Yg2 i):=λF0 H0 F H Y M De En ⟨A,e⟩ l w=>by
 unfold Yg2 at w
 split at w
 .rename_i t ht
  obtain⟨v,h1,h2⟩:=e.own i t ht
  exact⟨v,h1,l.rt F H t v e.ext ⟨A i,h2,e.nod i,λa ha=>⟨(e.new i a ha).2.1,(e.new i a ha).1⟩⟩ w⟩
 .exact w.elim
def sIf (C:DT)(T U:DS):DS:=λDe M=>C M λb=>if b=true then T De M else U De M
theorem Xcl {c:TT}{C:DT}(h:Xw9 K c C)(ht:Xfn K t T)(hu:Xfn K u U):Xfn K (Ynz c t u) (sIf C T U):=λF0 H0 F H Y M De En e l w=>h F0 H0 F H Y M _ _ e w λb F' H' p x=>by
 cases b with
 |true=>exact Yij (ht F0 H0 F' H' Y M De En (e.on x) l p)
 |false=>exact Yik rfl (hu F0 H0 F' H' Y M De En (e.on x) l p)
def Yn4 (i:Nat)(E:DO):DS:=λDe M=>E M λr=>De.nx (M.set i (some (.own r)))
theorem Xa8 {i:Nat}(h:Xj5 K te Eo):Xfn K (Ycr te (Xu5 i)) (Yn4 i Eo):=λF0 H0 F H Y M De En e l w=>h F0 H0 F H Y M _ _ e w λr v F' H' p x n=>l.nx F' H' _ _ (e.put x i n) p
def Yn8 (i:Nat)(r:DR2)(E:DE):DS:=λDe M=>dV i M λx=>E M λy=>r x y λz=>De.nx (M.set i (some (.own (.fz z))))
theorem Yfb {i:Nat}{R:R2}{r:DR2}(ho:OpS K R r)(h:Xhv K te E):Xfn K (Yn1 i te R) (Yn8 i r E):=λF0 H0 F H Y M De En e l w=>by
 obtain⟨v,hv,w⟩:=Xag (i:=i) F0 H0 F H Y M _ (λv H'=>te Y H' λy H1=>R v y H1 λz H2=>En.nx (Y.set i (some z)) H2) e w λd v F1 H1 p x1 r1=>by
  exact h F0 H0 F1 H1 Y M _ _ (e.on x1) p λy u F2 H2 p2 x2 r2=>ho F2 H2 d y v u _ _ x2.fh (r1.mono (x1.fh.trans x2.hh |> λs=>s)) r2 p2 λz w F3 H3 p3 x3 r3=>l.nx F3 H3 _ _ (((e.on x1).on x2).put x3 i (.fz r3)) p3
 exact⟨v,hv,w⟩
def gN (i:Nat):D->Dst->(Dst->Prop)->Prop:=λd M P=>P (M.set i (some (.own (.fz d))))
theorem Xav {i:Nat}:Yjb K (Xu5 i) (gN i):=λF0 H0 F H Y M A d v P Q e r w q=>q _ _ _ w (e.putFz i r) λj a ha=>by
 try dsimp only at ha
 split at ha
 .cases ha
 .exact ha
def Xoh:List D->Dst->(Dst->Prop)->Prop:=λds M P=>match ds with
 | []=>P M
 |_=>False
def Xhr (G:D->Dst->(Dst->Prop)->Prop)(Gs:List D->Dst->(Dst->Prop)->Prop):List D->Dst->(Dst->Prop)->Prop:=λds M P=>match ds with
 |d::r=>G d M λM'=>Gs r M' P
 |_=>False
theorem Xee:Yeq K Yoo Xoh:=λF0 H0 F H Y M A ds vs P Q e r w q=>by
 unfold Xoh at w
 split at w
 .exact ⟨r,q _ _ A w e λ_ _ z=>z⟩
 .exact w.elim
theorem Xbb {g:TG}{gs:TGs}{G:D->Dst->(Dst->Prop)->Prop}{Gs:List D->Dst->(Dst->Prop)->Prop}(h:Yjb K g G)(hs:Yeq K gs Gs):Yeq K (Ylj g gs) (Xhr G Gs):=λF0 H0 F H Y M A ds vs P Q e r w q=>by
 unfold Xhr at w
 split at w
 .obtain ⟨v,r',rfl,h1,h2⟩:=r
  exact⟨v,r',rfl,h F0 H0 F H Y M A _ v _ _ e h1 w λY' M' A' w' e' sb=>hs F0 H0 F H Y' M' A' _ r' P Q e' h2 w' λY2 M2 A2 w2 e2 sb2=>q Y2 M2 A2 w2 e2 λi a z=>sb i a (sb2 i a z)⟩
 .exact w.elim
def gT (n:Nat)(Gs:List D->Dst->(Dst->Prop)->Prop):D->Dst->(Dst->Prop)->Prop:=λd M P=>match d with
 | .tup ds=>ds.length=n/\Gs ds M P
 |_=>False
theorem Xgk {n:Nat}{gs:TGs}{Gs:List D->Dst->(Dst->Prop)->Prop}(hs:Yeq K gs Gs):Yjb K (Yon K n gs) (gT n Gs):=λF0 H0 F H Y M A d v P Q e r w q=>by
 unfold gT at w
 split at w
 .obtain ⟨a,vs,rfl,h1,h2⟩:=r
  exact⟨a,vs,rfl,e.ext.fh.seqT h1,by rw[<- h2.length];exact w.1,hs F0 H0 F H Y M A _ vs P Q e h2 w.2 q⟩
 .exact w.elim
def Yn9 (E:DE)(G:D->Dst->(Dst->Prop)->Prop):DS:=λDe M=>E M λd=>G d M De.nx
theorem Xzr {g:TG}{G:D->Dst->(Dst->Prop)->Prop}(h:Xey K te E)(hg:Yjb K g G):Xfn K (Ycr te g) (Yn9 E G):=λF0 H0 F H Y M De En e l w=>h F0 H0 F H Y M _ _ e w λd v F' H' p x r=>
 let⟨A,e⟩:=e
 hg F0 H0 F' H' Y M A d v _ _ (e.on x) r p λY' M' A' w' e' _=>l.nx F' H' Y' M' ⟨A',e'⟩ w'
theorem ER.change {F0 H0 F H H':Hp}{Y:St}{M:Dst}{A:Nat->List Addr}(e:ER K F0 H0 F H Y M A)(i:Nat){t':OV}{v:V}{B:List Addr}(hv:Y[i]?=some (some v))(hr:Xm0 K F H' t' v B)(hB:B.Nodup)
  (hBn:∀b∈B,F b=none/\H0 b=none) (dj:∀j,j≠i->∀b∈B,b∉A j) (keep:∀b o,b∉A i->H b=some o->H' b=some o):Xfo K F0 H0 F H' Y (M.set i (some (.own t'))):=by
 have hi:i<M.length:=by rw[<- e.len];exact (List.getElem?_eq_some_iff.mp hv).1
 refine⟨λj=>if j=i then B else A j,by simp[e.len],⟨e.ext.ff,λb o h=>?_,λb o h=>?_,e.ext.no⟩,λj t hj=>?_,λj d hj=>?_,λj=>?_,λj k a hjk h1 h2=>?_,λj a ha=>?_⟩
 .exact keep b o (λz=>by rw[(e.new i b z).2.1]at h;cases h) (e.ext.hh _ _ h)
 .exact keep b o (λz=>by rw[(e.new i b z).1]at h;cases h) (e.ext.fh _ _ h)
 .try dsimp only
  by_cases z:j=i
  .subst z
   rw[if_pos rfl]
   rw[getElem?_set_self hi]at hj
   cases hj
   exact⟨v,hv,hr⟩
  .rw [if_neg z]
   rw[getElem?_set_ne (Ne.symm z)]at hj
   obtain⟨u,h1,h2⟩:=e.own j t hj
   exact⟨u,h1,h2.frame (Xbi.refl _) λa ha xs h=>keep a _ (e.dis j i a z ha) h⟩
 .by_cases z:j=i
  .subst z
   rw[getElem?_set_self hi]at hj
   cases hj
  .rw [getElem?_set_ne (Ne.symm z)]at hj
   exact e.bw j d hj
 .try dsimp only
  split
  .exact hB
  .exact e.nod j
 .try dsimp only at h1 h2
  split at h1
  .split at h2
   .omega
   .rename_i z1 z2
    exact dj k z2 a h1 h2
  .split at h2
   .rename_i z1 z2
    exact dj j z1 a h2 h1
   .exact e.dis j k a hjk h1 h2
 .try dsimp only at ha
  split at ha
  .exact ⟨(hBn a ha).1,(hBn a ha).2,hr.isl a ha⟩
  .rename_i z
   obtain⟨h1,h2,xs,h3,himm⟩:=e.new j a ha
   exact⟨h1,h2,xs,keep a _ (e.dis j i a z ha) h3,himm⟩
def Ymy (i:Nat)(E:DO):DS:=λDe M=>match M[i]? with
 |some (some (.own (.nl ts)))=>ts.length<1000000/\E M λr=>De.nx (M.set i (some (.own (.nl (ts++[r])))))
 |_=>False
theorem Xaz {H:Hp}{a b:Addr}{o o':HO}(h:b≠a)(e:H b=some o'):upd H a o b=some o':=by rw[Xcp h];exact e
theorem Xse {i:Nat}(h:Xj5 K te Eo):Xfn K (Xov (tBM K "list" rAppend (Xm7 i) (Xla te Xvq))) (Ymy i Eo):=λF0 H0 F H Y M De En e l w=>by
 obtain⟨A,e⟩:=e
 unfold Ymy at w
 split at w
 .rename_i ts hs
  obtain⟨pl,w⟩:=w
  obtain⟨v,hv,a,vs,B,rfl,eA,ha,hB⟩:=e.own i _ hs
  refine⟨_,hv,.inl ⟨rfl,_,SqL.of ha⟩,?_⟩
  refine h F0 H0 F H Y M _ _ ⟨A,e⟩ w λr u F1 H1 p x1 n=>?_
  obtain⟨C,c1,c2,c3⟩:=n
  have e1:=e.on x1
  have hl:=hB.length
  refine⟨a,vs,u,rfl,rfl,x1.hh _ _ ha,Xy0 (by omega),?_⟩
  have hB1:Xa6 K F1 H1 ts vs B:=hB.frame x1.ff λb _ xs z=>x1.hh _ _ z
  have hnd:=e.nod i
  rw[eA]at hnd
  obtain⟨n1,n2⟩:=nodup_cons.mp hnd
  have hCA:∀j b,b∈C->b∉A j:=λj b hb z=>by
   obtain⟨_,_,xs,q,_⟩:=e.new j b z
   rw[(c3 b hb).1]at q;cases q
  have haC:a∉C:=λz=>hCA i a z (by rw[eA];exact mem_cons_self)
  refine l.nx F1 _ Y _ (e1.change i hv (t':=.nl (ts++[r])) (B:=a::(B++C)) ⟨a,vs++[u],B++C,rfl,rfl,Xa3,?_⟩ ?_ ?_ ?_ ?_) p
  .exact Xa6.append (hB1.frame (Xbi.refl _) λb hb xs z=>Xaz (λq=>n1 (by rw[<- q];exact hb)) z) (Xa6.one (c1.frame (Xbi.refl _) λb hb xs z=>Xaz (λq=>haC (by rw[<- q];exact hb)) z))
  .refine nodup_cons.mpr ⟨λz=>?_,nodup_append.mpr ⟨n2,c2,λx hx y hy z=>?_⟩⟩
   .rcases mem_append.mp z with z |z
    .exact n1 z
    .exact haC z
   .subst z
    exact hCA i x hy (by rw[eA];exact mem_cons_of_mem _ hx)
  .intro b hb
   have hb':b∈A i∨b∈C:=by
    rw[eA]
    rcases mem_cons.mp hb with z |z
    .exact .inl (by rw[z];exact mem_cons_self)
    .rcases mem_append.mp z with z |z
     .exact .inl (mem_cons_of_mem _ z)
     .exact .inr z
   rcases hb' with z |z
   .exact ⟨(e1.new i b z).1,(e1.new i b z).2.1⟩
   .exact ⟨(c3 b z).2,e.ext.hh.free (c3 b z).1⟩
  .intro j hj b hb z
   rcases mem_cons.mp hb with q |q
   .subst q;exact e.dis j i b hj z (by rw[eA];exact mem_cons_self)
   .rcases mem_append.mp q with q |q
    .exact e.dis j i b hj z (by rw[eA];exact mem_cons_of_mem _ q)
    .exact hCA j b q z
  .intro b o hb q
   exact Xaz (λz=>hb (by rw[eA,z];exact mem_cons_self)) q
 .exact w.elim
def Yn6 (i:Nat)(Ei:DE)(E:DO):DS:=λDe M=>E M λr=>match M[i]? with
 |some (some (.own (.nl ts)))=>Ei M λk=>match k with
  | .int k=>∃j,ixN ts.length k=some j/\De.nx (M.set i (some (.own (.nl (ts.set j r)))))
  |_=>False
 |_=>False
theorem Ye8 {i:Nat}(h:Xj5 K te Eo)(hi:Xhv K ti Ei):Xfn K (Ycr te (Yml (Xm7 i) ti Ydi)) (Yn6 i Ei Eo):=λF0 H0 F H Y M De En e l w=>by
 refine h F0 H0 F H Y M _ _ e w λr u F1 H1 p x1 n=>?_
 obtain⟨A,e⟩:=e
 split at p
 .rename_i ts hs
  have e1:=e.on x1
  obtain⟨v,hv,a,vs,B,rfl,eA,ha,hB⟩:=e1.own i _ hs
  refine⟨_,hv,?_⟩
  refine hi F0 H0 F1 H1 Y M _ _ ⟨A,e1⟩ p λk kv F2 H2 p2 x2 r2=>?_
  try dsimp only at p2
  split at p2
  .rename_i k
   obtain⟨j,hj,p2⟩:=p2
   have e2:=e1.on x2
   have ha2:=x2.hh _ _ ha
   have hB2:Xa6 K F2 H2 ts vs B:=hB.frame x2.ff λb _ xs z=>x2.hh _ _ z
   obtain⟨C,c1,c2,c3⟩:=n
   have c1':Xm0 K F2 H2 r u C:=c1.frame x2.ff λb _ xs z=>x2.hh _ _ z
   have hl:=hB.length
   refine⟨a,vs,k,j,rfl,r2,ha2,by rw[<- hl];exact hj,?_⟩
   have hjl:j<ts.length:=by
    unfold ixN at hj
    split at hj
    .split at hj
     .cases hj;omega
     .cases hj
    .split at hj
     .cases hj;omega
     .cases hj
   obtain⟨v0,A1,B0,A2,f1,rfl,f3,f4⟩:=hB2.focus (getElem?_eq_getElem hjl)
   have hnd:=e.nod i
   rw[eA]at hnd
   obtain⟨n1,n2⟩:=nodup_cons.mp hnd
   have hCA:∀j b,b∈C->b∉A j:=λj b hb z=>by
    obtain⟨_,_,xs,q,_⟩:=e.new j b z
    rw[(c3 b hb).1]at q;cases q
   have haC:a∉C:=λz=>hCA i a z (by rw[eA];exact mem_cons_self)
   have sub:∀b,b∈A1++A2->b∈A1++(B0++A2):=λb hb=>by
    rcases mem_append.mp hb with z |z<;>simp[z]
   have ina:∀b,b∈a::(A1++(C++A2))->b∈A i∨b∈C:=λb hb=>by
    rw[eA]
    rcases mem_cons.mp hb with z |z
    .exact .inl (by rw[z];exact mem_cons_self)
    .rcases mem_append.mp z with z |z
     .exact .inl (by simp[z])
     .rcases mem_append.mp z with z |z
      .exact .inr z
      .exact .inl (by simp[z])
   refine l.nx F2 _ Y _ (e2.change i hv (t':=.nl (ts.set j r)) (B:=a::(A1++(C++A2))) ⟨a,vs.set j u,_,rfl,rfl,Xa3,f4 F2 _ r u C (Xbi.refl _) (λb hb xs z=>?_) (c1'.frame (Xbi.refl _) λb hb xs z=>Xaz (λq=>haC (by rw[<- q];exact hb)) z)⟩ ?_ ?_ ?_ ?_) p2
   .exact Xaz (λq=>n1 (by rw[<- q];exact sub b hb)) z
   .obtain ⟨m1,m2,m3⟩:=nodup_append.mp n2
    obtain⟨k1,k2,k3⟩:=nodup_append.mp m2
    refine nodup_cons.mpr ⟨λz=>?_,nodup_append.mpr ⟨m1,nodup_append.mpr ⟨c2,k2,λx hx y hy z=>?_⟩,λx hx y hy z=>?_⟩⟩
    .rcases mem_append.mp z with z |z
     .exact n1 (by simp[z])
     .rcases mem_append.mp z with z |z
      .exact haC z
      .exact n1 (by simp[z])
    .subst z
     exact hCA i x hx (by rw[eA];simp[hy])
    .rcases mem_append.mp hy with q |q
     .subst z
      exact hCA i x q (by rw[eA];simp[hx])
     .exact m3 x hx y (by simp[q]) z
   .intro b hb
    rcases ina b hb with z |z
    .exact ⟨(e2.new i b z).1,(e2.new i b z).2.1⟩
    .obtain ⟨xs,q,himm⟩:=c1.isl b z
     exact⟨x2.no b _ (c3 b z).2 q himm,e.ext.hh.free (c3 b z).1⟩
   .intro j' hj' b hb z
    rcases ina b hb with q |q
    .exact e.dis j' i b hj' z q
    .exact hCA j' b q z
   .intro b o hb q
    exact Xaz (λz=>hb (by rw[eA,z];exact mem_cons_self)) q
  .exact p2.elim
 .exact p.elim
def Yhg (i:Nat)(g:Int->Int->Int)(Ei E:DE):DS:=λDe M=>match M[i]? with
 |some (some (.own (.nl ts)))=>Ei M λk=>match k with
  | .int k=>0<=k/\∃x,ts[k.toNat]?=some (.fz (.int x))/\E M λy=>match y with
   | .int y=>De.nx (M.set i (some (.own (.nl (ts.set k.toNat (.fz (.int (g x y))))))))
   |_=>False
  |_=>False
 |_=>False
theorem Xzq {i:Nat}{g:Int->Int->Int}(hi:Xhv K ti Ei)(h:Xhv K te E):Xfn K (Yjp (Xm7 i) ti te (Ykc K) (ipI g) Ydi) (Yhg i g Ei E):=λF0 H0 F H Y M De En e l w=>by
 obtain⟨A,e⟩:=e
 unfold Yhg at w
 split at w
 .rename_i ts hs
  obtain⟨v,hv,a,vs,B,rfl,eA,ha,hB⟩:=e.own i _ hs
  refine⟨_,hv,?_⟩
  refine hi F0 H0 F H Y M _ _ ⟨A,e⟩ w λk kv F1 H1 p x1 r1=>?_
  split at p
  .rename_i k
   obtain⟨k0,x,hx,p⟩:=p
   have e1:=e.on x1
   have ha1:=x1.hh _ _ ha
   have hB1:Xa6 K F1 H1 ts vs B:=hB.frame x1.ff λb _ xs z=>x1.hh _ _ z
   obtain⟨v0,A1,B0,A2,f1,rfl,f3,f4⟩:=hB1.focus hx
   obtain⟨rfl,f3⟩:=f3
   refine⟨a,vs,k,v0,rfl,r1,SqL.of ha1,k0,f1,?_⟩
   refine h F0 H0 F1 H1 Y M _ _ ⟨A,e1⟩ p λy yv F2 H2 p2 x2 r2=>?_
   split at p2
   .rename_i y
    have e2:=e1.on x2
    have hl:=hB.length
    have hjl:k.toNat<vs.length:=(List.getElem?_eq_some_iff.mp f1).1
    refine⟨x,y,f3,r2,a,vs,k,k.toNat,rfl,r1,x2.hh _ _ ha1,?_,?_⟩
    .unfold ixN
     rw[if_pos k0,if_pos (by omega)]
    .have hnd:=e.nod i
     rw[eA]at hnd
     obtain⟨n1,n2⟩:=nodup_cons.mp hnd
     refine l.nx F2 _ Y _ (e2.change i hv (t':=.nl (ts.set k.toNat (.fz (.int (g x y))))) (B:=a::(A1++([]++A2))) ⟨a,_,_,rfl,rfl,Xa3,f4 F2 _ (.fz (.int (g x y))) _ [] x2.ff (λb hb xs z=>Xaz (λq=>n1 (by rw[<- q];exact hb)) (x2.hh _ _ z)) ⟨rfl,rfl⟩⟩ ?_ ?_ ?_ ?_) p2
     .exact hnd
     .intro b hb
      exact⟨(e2.new i b (by rw[eA];exact hb)).1,(e2.new i b (by rw[eA];exact hb)).2.1⟩
     .intro j hj b hb z
      exact e.dis j i b hj z (by rw[eA];exact hb)
     .intro b o hb q
      exact Xaz (λz=>hb (by rw[eA,z];exact mem_cons_self)) q
   .exact p2.elim
  .exact p.elim
 .exact w.elim
end
section
variable {K:Frag}{te ti ta tl:TE}{E Ea Ei El:DE}{Eo:DO}{t u:TS}{T U:DS}{a:TA}{As:DA}
theorem ER.rebase {F0 H0 F H:Hp}{Y:St}{M:Dst}{A:Nat->List Addr}(e:ER K F0 H0 F H Y M A):ER K F H0 F H Y M A:=⟨e.len,⟨Xbi.refl _,e.ext.hh,e.ext.fh,λ_ _ z _ _=>z⟩,e.own,e.bw,e.nod,e.dis,e.new⟩
theorem Xfo.rebase {F0 H0 F H:Hp}{Y:St}{M:Dst}(e:Xfo K F0 H0 F H Y M):Xfo K F H0 F H Y M:=let⟨A,e⟩:=e;⟨A,e.rebase⟩
theorem Ext.unbase {F0 H0 F1 H1 F H:Hp}(x:Ext F0 H0 F1 H1)(y:Ext F1 H0 F H):Ext F0 H0 F H:=⟨x.ff.trans y.ff,y.hh,y.fh,λa o z1 z2 z3=>y.no a o (x.no a o z1 z2 z3) z2 z3⟩
theorem Xfo.unbase {F0 H0 F1 H1 F H:Hp}{Y:St}{M:Dst}(x:Ext F0 H0 F1 H1)(e:Xfo K F1 H0 F H Y M):Xfo K F0 H0 F H Y M:=let⟨A,e⟩:=e;⟨A,e.len,x.unbase e.ext,e.own,e.bw,e.nod,e.dis,e.new⟩
def Yju (C:DT)(T:DS):DS:=λDe M=>∃W:Nat->Dst->Prop,(∃m,W m M)/\∀m M,W m M->C M λb=>if b=true then T {nx:=λM'=>∃m',m'<m/\W m' M',ct:=λM'=>∃m',m'<m/\W m' M',bk:=De.nx,rt:=De.rt} M else De.nx M
theorem Xv1 {c:TT}{C:DT}(h:Xw9 K c C)(ht:Xfn K t T):Xfn K (Yey c t) (Yju C T):=λF0 H0 F H Y M De En e l w=>by
 obtain⟨W,⟨m0,w0⟩,hW⟩:=w
 refine⟨λm Y H=>∃F M,Xfo K F0 H0 F H Y M/\W m M,⟨m0,F,M,e,w0⟩,?_⟩
 rintro m Y1 H1 ⟨F1,M1,e1,w1⟩
 refine h F0 H0 F1 H1 Y1 M1 _ _ e1 (hW m M1 w1) λb F2 H2 p x=>?_
 cases b with
 |true=>
  refine Yij ⟨λY' H'=>∃m',m'<m/\∃F M,Xfo K F0 H0 F H' Y' M/\W m' M,λY' H' z=>z,?_⟩
  refine ht F0 H0 F2 H2 Y1 M1 {nx:=λM'=>∃m',m'<m/\W m' M',ct:=λM'=>∃m',m'<m/\W m' M',bk:=De.nx,rt:=De.rt} _ (e1.on x) ⟨λF3 H3 Y3 M3 e3 ⟨m',hm,w3⟩=>⟨m',hm,F3,M3,e3,w3⟩,l.nx,λF3 H3 Y3 M3 e3 ⟨m',hm,w3⟩=>⟨m',hm,F3,M3,e3,w3⟩,l.rt⟩ p
 |false=>exact Yik rfl (l.nx F2 H2 Y1 M1 (e1.on x) p)
def ItR (K:Frag)(F:Hp)(J:It)(ds:List D):Prop:=∀F1 H1,Xbi F F1->Xbi F1 H1->(∀i,i<ds.length->J.go i H1)/\J.stop ds.length H1/\∀i x H2,i<ds.length->J.yld i H1 x H2->∃d F2,ds[i]?=some d/\Ext F1 H1 F2 H2/\Rep K F2 d x
def Xyj (K:Frag)(wi:TI)(I:DA):Prop:=∀F0 H0 F H Y M P R,Xfo K F0 H0 F H Y M->I M P->(∀ds J F' H',P ds->Ext F H F' H'->ItR K F' J ds->R J H')->wi Y H R
def Ypt (G:D->Dst->(Dst->Prop)->Prop)(T:DS)(De:DEnds)(ds:List D)(M:Dst):Prop:=∃W:Nat->Dst->Prop,W 0 M/\
 (∀i d M,ds[i]?=some d->W i M->G d M λM'=>T {nx:=W (i+1),ct:=W (i+1),bk:=De.nx,rt:=De.rt} M')/\∀M,W ds.length M->De.nx M
def Yn7 (I:DA)(G:D->Dst->(Dst->Prop)->Prop)(T:DS):DS:=λDe M=>I M λds=>Ypt G T De ds M
theorem Xcu {wi:TI}{I:DA}{g:TG}{G:D->Dst->(Dst->Prop)->Prop}(hi:Xyj K wi I)(hg:Yjb K g G)(ht:Xfn K t T):Xfn K (Yn0 wi g t) (Yn7 I G T):=λF0 H0 F H Y M De En e l w=>
 hi F0 H0 F H Y M _ _ e w λds J F1 H1 p x1 hJ=>by
  have b1:=(e.on x1).ext
  obtain⟨W,w0,ws,wd⟩:=p
  refine⟨λi m Y H=>m=ds.length-i/\i<=ds.length/\∃F M,Xfo K F1 H0 F H Y M/\W i M,⟨ds.length,by simp,zero_le _,F1,M,(e.on x1).rebase,w0⟩,?_⟩
  rintro i m Y2 H2 ⟨rfl,hil,F2,M2,⟨A2,e2⟩,w2⟩
  obtain⟨j1,j2,j3⟩:=hJ F2 H2 e2.ext.ff e2.ext.fh
  by_cases hlt:i<ds.length
  .refine .inr ⟨j1 i hlt,λY' H'=>∃F M,Xfo K F1 H0 F H' Y' M/\W (i+1) M,λY' H' ⟨F3,M3,e3,w3⟩=>⟨ds.length-(i+1),by omega,rfl,hlt,F3,M3,e3,w3⟩,λx H3 y=>?_⟩
   obtain⟨d,F3,hd,x3,r3⟩:=j3 i x H3 hlt y
   refine hg F1 H0 F3 H3 Y2 M2 A2 d x _ _ (e2.on x3) r3 (ws i d M2 hd w2) λY4 M4 A4 w4 e4 _=>?_
   exact ht F1 H0 F3 H3 Y4 M4 {nx:=W (i+1),ct:=W (i+1),bk:=De.nx,rt:=De.rt} _ ⟨A4,e4⟩ ⟨λF5 H5 Y5 M5 e5 w5=>⟨F5,M5,e5,w5⟩,λF5 H5 Y5 M5 e5 w5=>l.nx F5 H5 Y5 M5 (e5.unbase b1) w5,λF5 H5 Y5 M5 e5 w5=>⟨F5,M5,e5,w5⟩,λF5 H5 r v x5 n5 w5=>l.rt F5 H5 r v (b1.unbase x5) n5 w5⟩ w4
  .have hi':i=ds.length:=by omega
   subst hi'
   exact .inl ⟨j2,l.nx F2 H2 Y2 M2 (Xfo.unbase b1 ⟨A2,e2⟩) (wd _ w2)⟩
def Yo3 (El:DE):DA:=λM P=>El M λd=>match d with
 | .lst ds=>P ds
 |_=>False
def Yo1 (El:DE):DA:=λM P=>El M λd=>match d with
 | .tup ds=>P ds
 |_=>False
theorem Xed (h:Xey K tl El):Xyj K (Yio K tl) (Yo3 El):=λF0 H0 F H Y M P R e w q=>h F0 H0 F H Y M _ _ e w λd v F' H' p x r=>by
 try dsimp only at p
 split at p
 .obtain ⟨a,vs,rfl,h1,h2⟩:=r
  refine⟨a,rfl,⟨vs,x.fh.seq h1⟩,q _ _ F' H' p x λF1 H1 s1 s2=>?_⟩
  have hl:=h2.length
  have hq:=(s1.trans s2).seq h1
  refine⟨λi hi=>⟨vs,vs[i],hq,getElem?_eq_getElem (by omega)⟩,⟨vs,hq,by omega⟩,λi x H2 hi y=>?_⟩
  obtain⟨rfl,y⟩:=y
  obtain⟨d,hd,rd⟩:=h2.get' (y vs hq)
  exact⟨d,F1,hd,Ext.refl s2,rd.mono s1⟩
 .exact p.elim
theorem Yfd (h:Xey K tl El):Xyj K (Yok K tl) (Yo1 El):=λF0 H0 F H Y M P R e w q=>h F0 H0 F H Y M _ _ e w λd v F' H' p x r=>by
 try dsimp only at p
 split at p
 .obtain ⟨a,vs,rfl,h1,h2⟩:=r
  refine⟨a,rfl,⟨vs,x.fh.seqT h1⟩,q _ _ F' H' p x λF1 H1 s1 s2=>?_⟩
  have hl:=h2.length
  have hq:=(s1.trans s2).seqT h1
  refine⟨λi hi=>⟨vs,vs[i],hq,getElem?_eq_getElem (by omega)⟩,⟨vs,hq,by omega⟩,λi x H2 hi y=>?_⟩
  obtain⟨rfl,y⟩:=y
  obtain⟨d,hd,rd⟩:=h2.get' (y vs hq)
  exact⟨d,F1,hd,Ext.refl s2,rd.mono s1⟩
 .exact p.elim
def rng (lo c:Int)(n:Nat):List D:=(List.range n).map λ(i:Nat)=>D.int (lo+i*c)
theorem Xdu {lo c:Int}{n:Nat}:(rng lo c n).length=n:=by simp[rng]
theorem Xui {lo c:Int}{n i:Nat}(h:i<n):(rng lo c n)[i]?=some (.int (lo+i*c)):=by simp[rng,h]
theorem Xfj {lo c:Int}{n i:Nat}{d:D}(h:(rng lo c n)[i]?=some d):i<n/\d = .int (lo+i*c):=by
 have hi:i<n:=by
  have:=(List.getElem?_eq_some_iff.mp h).1
  rwa[Xdu]at this
 rw[Xui hi]at h
 exact⟨hi,(Option.some.inj h).symm⟩
theorem Yil {F:Hp}{lo:Int}{n:Nat}:ItR K F (Itr lo n) (rng lo 1 n):=λF1 H1 s1 s2=>by
 rw[Xdu]
 refine⟨λi hi=>hi,Nat.le_refl _,λi x H2 hi y=>?_⟩
 obtain⟨rfl,rfl⟩:=y
 exact⟨_,F1,Xui hi,Ext.refl s2,by rw[mul_one];rfl⟩
theorem Xwu {F:Hp}{lo c:Int}{n:Nat}:ItR K F (Ymm lo c n) (rng lo c n):=λF1 H1 s1 s2=>by
 rw[Xdu]
 refine⟨λi hi=>hi,Nat.le_refl _,λi x H2 hi y=>?_⟩
 obtain⟨rfl,rfl⟩:=y
 exact⟨_,F1,Xui hi,Ext.refl s2,rfl⟩
def Ylr (As:DA):DA:=λM P=>As M λds=>match ds with
 | [.int j]=>(-(2^62)<=j/\j<2^62)/\P (rng 0 1 j.toNat)
 |_=>False
def Ylq (As:DA):DA:=λM P=>As M λds=>match ds with
 | [.int i,.int j,.int c]=>(-(2^61)<=i/\i<2^61/\-(2^61)<=j/\j<2^61/\0<c/\c<2^29)/\P (rng i c (Xhs i j c))
 |_=>False
theorem Yj4 {F:Hp}{d d' d'':D}{vs:List V}(h:Xb6 K F [d,d',d''] vs):∃v u w,vs=[v,u,w]/\Rep K F d v/\Rep K F d' u/\Rep K F d'' w:=by
 obtain⟨v,r,rfl,h1,h2⟩:=h
 obtain⟨u,w,rfl,h3,h4⟩:=Xz4 h2
 exact⟨v,u,w,rfl,h1,h3,h4⟩
theorem Xhe (h:Xos K a As):Xyj K (Ylg a) (Ylr As):=λF0 H0 F H Y M P R e w q=>h F0 H0 F H Y M _ _ e w λds vs F' H' p x r=>by
 try dsimp only at p
 split at p
 .obtain ⟨v,rfl,r1⟩:=Xhf r
  exact⟨_,by rw[show v=_ from r1],p.1.1,p.1.2,q _ _ F' H' p.2 x Yil⟩
 .exact p.elim
theorem Xnq (h:Xos K a As):Xyj K (Ylf a) (Ylq As):=λF0 H0 F H Y M P R e w q=>h F0 H0 F H Y M _ _ e w λds vs F' H' p x r=>by
 try dsimp only at p
 split at p
 .obtain ⟨v,u,z,rfl,r1,r2,r3⟩:=Yj4 r
  exact⟨_,_,_,by rw[show v=_ from r1,show u=_ from r2,show z=_ from r3],p.1,q _ _ F' H' p.2 x Xwu⟩
 .exact p.elim
def Yoy (As:DA):DA:=λM P=>As M λds=>match ds with
 | [.tup xs]=>P xs.reverse
 |_=>False
theorem Yfe (h:Xiy K a As):Xyj K (Yom K a) (Yoy As):=λF0 H0 F H Y M P R e w q=>h F0 H0 F H Y M _ _ e w λds vs F' H' p x r=>by
 try dsimp only at p
 split at p
 .obtain ⟨v,rfl,a,us,rfl,h1,h2⟩:=Xhf r
  have hl:=h2.length
  refine⟨a,us,rfl,x.fh.seqT h1,q _ _ F' H' p x λF1 H1 s1 s2=>?_⟩
  have hq:=(s1.trans s2).seqT h1
  rw[length_reverse]
  refine⟨λi hi=>⟨us,us[us.length-1-i]'(by omega),hq,rfl,by omega,getElem?_eq_getElem (by omega)⟩,by show us.length<=_;omega,λi x H2 hi y=>?_⟩
  obtain⟨rfl,y⟩:=y
  obtain⟨d,hd,rd⟩:=h2.get' (y us hq)
  refine⟨d,F1,?_,Ext.refl s2,rd.mono s1⟩
  rw[getElem?_reverse hi,hl];exact hd
 .exact p.elim
def Yiz (ix:List (Option Nat))(M:Dst):Dst:=ix.map λo=>match o with
 |none=>none
 |some i=>match M[i]? with
  |some (some (.own (.fz d)))=>some (.own (.fz d))
  |some (some (.own (.fx _ d)))=>some (.own (.fz d))
  |some (some (.own t))=>some (.bw t.val)
  |some (some (.bw d))=>some (.bw d)
  |_=>none
def Xme (G:D->Dst->(Dst->Prop)->Prop)(Eo:DO)(ds:List D)(M:Dst)(P:OV->Prop):Prop:=∃W:Nat->Dst->List OV->Prop,W 0 M []/\
 (∀i d M ts,ds[i]?=some d->W i M ts->ts.length<1000000/\G d M λM'=>Eo M' λr=>W (i+1) M' (ts++[r]))/\∀M ts,W ds.length M ts->P (.nl ts)
def Yl0 (I:DA)(ix:List (Option Nat))(G:D->Dst->(Dst->Prop)->Prop)(Eo:DO):DO:=λM P=>I M λds=>Xme G Eo ds (Yiz ix M) P
theorem ER.blk {F0 H0 F H H':Hp}{Y:St}{M:Dst}{A:Nat->List Addr}(e:ER K F0 H0 F H Y M A)(ix:List (Option Nat))(s:Xbi H H'):ER K F H F H' (Xrn ix Y) (Yiz ix M) (λ_=>[]):=by
 have get:∀(j:Nat) (s:Sl),(Yiz ix M)[j]?=some (some s)->∃(i:Nat) (v:V),(Xrn ix Y)[j]?=some (some v)/\Y[i]?=some (some v)/\((∃d,s = .own (.fz d)/\Rep K F d v)∨∃d,s = .bw d/\Rep K H d v):=by
  intro j s hj
  unfold Yiz at hj
  rw[getElem?_map]at hj
  cases q:ix[j]? with
  |none=>rw[q]at hj;cases hj
  |some o=>
   rw[q]at hj
   cases o with
   |none=>cases hj
   |some i=>
    have fin:∀v,Y[i]?=some (some v)->(Xrn ix Y)[j]?=some (some v):=λv hv=>by
     unfold Xrn
     rw[getElem?_map,q]
     simp[hv]
    have hj':=Option.some.inj hj
    dsimp only at hj'
    split at hj'
    .rename_i d hd
     cases hj'
     obtain⟨v,h1,h2⟩:=e.own i _ hd
     exact⟨i,v,fin v h1,h1,.inl ⟨d,rfl,h2.2⟩⟩
    .rename_i u d hd
     cases hj'
     obtain⟨v,h1,h2⟩:=e.own i _ hd
     exact⟨i,v,fin v h1,h1,.inl ⟨d,rfl,h2.2.2⟩⟩
    .rename_i t _ _ hd
     cases hj'
     obtain⟨v,h1,h2⟩:=e.own i _ hd
     exact⟨i,v,fin v h1,h1,.inr ⟨_,rfl,h2.rep e.ext.fh λa _ xs z=>z⟩⟩
    .rename_i d hd
     cases hj'
     obtain⟨v,h1,h2⟩:=e.bw i _ hd
     exact⟨i,v,fin v h1,h1,.inr ⟨_,rfl,h2.mono e.ext.hh⟩⟩
    .cases hj'
 refine⟨by simp[Xrn,Yiz],Ext.grow e.ext.fh s,λj t hj=>?_,λj d hj=>?_,λ_=>nodup_nil,(λ_ _ _ _ h=>by cases h),(λ_ _ h=>by cases h)⟩
 .obtain ⟨i,v,h1,h2,h3⟩:=get j _ hj
  rcases h3 with⟨d,h3,h4⟩ | ⟨d,h3,_⟩
  .cases h3;exact⟨v,h1,rfl,h4⟩
  .cases h3
 .obtain ⟨i,v,h1,h2,h3⟩:=get j _ hj
  rcases h3 with⟨d',h3,h4⟩ | ⟨d',h3,h4⟩
  .cases h3
  .cases h3;exact⟨v,h1,h4⟩
theorem Xc6 {wi:TI}{I:DA}{g:TG}{G:D->Dst->(Dst->Prop)->Prop}{ix:List (Option Nat)}(hi:Xyj K wi I)(hg:Yjb K g G)(he:Xj5 K te Eo):Xj5 K (Xyy wi ix g te) (Yl0 I ix G Eo):=λF0 H0 F H Y M P Q e w q=>
 hi F0 H0 F H Y M _ _ e w λds J F1 H1 p x1 hJ=>by
  intro L hL
  obtain⟨A,e⟩:=e.on x1
  obtain⟨W,w0,ws,wd⟩:=p
  have f1:Xbi F1 H1:=x1.fh
  refine⟨λi m Y ys H=>m=ds.length-i/\i<=ds.length/\∃F M ts B,ER K F1 H1 F H Y M (λ_=>[])/\W i M ts/\F L=none/\H L=some (.lst ys)/\Xa6 K F H ts ys B/\(L::B).Nodup/\∀b∈B,H1 b=none/\F b=none,
   ⟨ds.length,by simp,zero_le _,F1,_,[],[],e.blk ix (Xbi.new hL),w0,f1.free hL,Xa3,⟨rfl,rfl⟩,by simp,λ_ h=>by cases h⟩,?_⟩
  rintro i m Y2 ys H2 ⟨rfl,hil,F2,M2,ts,B,e2,w2,l1,l2,hr,nd,nw⟩
  obtain⟨j1,j2,j3⟩:=hJ F2 H2 e2.ext.ff e2.ext.fh
  by_cases hlt:i<ds.length
  .obtain ⟨d0,hd0⟩:∃d,ds[i]?=some d:=⟨_,getElem?_eq_getElem hlt⟩
   have hl:=hr.length
   refine .inr ⟨Xy0 (by have:=(ws i d0 M2 ts hd0 w2).1;omega),j1 i hlt,λx H3 y=>?_⟩
   obtain⟨d,F3,hd,x3,r3⟩:=j3 i x H3 hlt y
   refine hg F1 H1 F3 H3 Y2 M2 (λ_=>[]) d x _ _ (e2.on x3) r3 (ws i d M2 ts hd w2).2 λY4 M4 A4 w4 e4 sub=>?_
   have e4':ER K F1 H1 F3 H3 Y4 M4 (λ_=>[]):=by
    have:A4=λ_=>[]:=funext λk=>List.eq_nil_iff_forall_not_mem.mpr λb hb=>by cases sub k b hb
    rw[this]at e4;exact e4
   refine he F1 H1 F3 H3 Y4 M4 _ _ ⟨_,e4'⟩ w4 λr v F5 H5 p5 x5 n5=>?_
   have x25:=x3.trans x5
   have l5:=x25.hh _ _ l2
   have l5f:=x25.no L _ l1 l2 rfl
   refine⟨l5,ds.length-(i+1),by omega,rfl,hlt,F5,M4,ts++[r],?_⟩
   obtain⟨C,c1,c2,c3⟩:=n5
   obtain⟨n1,n2⟩:=nodup_cons.mp nd
   have hLC:L∉C:=λz=>by
    have q:=(c3 L z).1
    rw[x3.hh _ _ l2]at q;cases q
   have hBC:∀b,b∈B->b∉C:=λb hb z=>by
    obtain⟨xs,q,himm⟩:=hr.isl b hb
    have:=(c3 b z).1
    rw[x3.hh _ _ q]at this;cases this
   have e5:=e4'.on x5
   refine⟨B++C,⟨e5.len,⟨e5.ext.ff,λb o h=>?_,λb o h=>?_,e5.ext.no⟩,λj t hj=>?_,e5.bw,e5.nod,e5.dis,λ_ _ h=>by cases h⟩,p5,l5f,Xa3,?_,?_,λb hb=>?_⟩
   .exact Xaz (λz=>by rw[z,hL]at h;cases h) (e5.ext.hh _ _ h)
   .exact Xaz (λz=>by rw[z,l5f]at h;cases h) (e5.ext.fh _ _ h)
   .obtain ⟨u,h1,h2⟩:=e5.own j t hj
    exact⟨u,h1,h2.frame (Xbi.refl _) λ_ z=>by cases z⟩
   .exact Xa6.append (hr.frame x25.ff λb hb xs z=>Xaz (λq=>n1 (by rw[<- q];exact hb)) (x25.hh _ _ z)) (Xa6.one (c1.frame (Xbi.refl _) λb hb xs z=>Xaz (λq=>hLC (by rw[<- q];exact hb)) z))
   .refine nodup_cons.mpr ⟨λz=>?_,nodup_append.mpr ⟨n2,c2,λx hx y hy z=>by subst z;exact hBC x hx hy⟩⟩
    rcases mem_append.mp z with z |z
    .exact n1 z
    .exact hLC z
   .rcases mem_append.mp hb with z |z
    .obtain ⟨xs,qq,himm⟩:=hr.isl b z
     exact⟨(nw b z).1,x25.no b _ (nw b z).2 qq himm⟩
    .exact ⟨(e2.ext.hh.trans x3.hh).free (c3 b z).1,(c3 b z).2⟩
  .have hi':i=ds.length:=by omega
   subst hi'
   refine .inl ⟨j2,q _ _ F2 H2 (wd _ _ w2) (x1.trans e2.ext) ⟨L::B,⟨L,ys,B,rfl,rfl,l2,hr⟩,nd,λb hb=>?_⟩⟩
   rcases mem_cons.mp hb with rfl |z
   .exact ⟨x1.hh.free hL,l1⟩
   .exact ⟨x1.hh.free (nw b z).1,(nw b z).2⟩
def Xgg (N:List Str)(ds:List D):Dst:=ds.map (λd=>some (.own (.fz d)))++List.replicate (N.length-ds.length) none
theorem Xj7 {H F:Hp}{N:List Str}{ds:List D}{vs:List V}(s:Xbi F H)(h:Xb6 K F ds vs):ER K F H F H (Xe0 N vs) (Xgg N ds) (λ_=>[]):=by
 have hl:=h.length
 refine⟨by simp[Xe0,Xgg,hl],Ext.refl s,λi t hi=>?_,λi d hi=>?_,λ_=>nodup_nil,(λ_ _ _ _ h=>by cases h),(λ_ _ h=>by cases h)⟩
 .unfold Xgg at hi
  by_cases z:i<ds.length
  .rw [getElem?_append_left (by simpa using z),getElem?_map,getElem?_eq_getElem z]at hi
   simp at hi
   subst hi
   obtain⟨v,h1,h2⟩:=h.get (getElem?_eq_getElem z)
   refine⟨v,?_,rfl,h2⟩
   unfold Xe0
   rw[getElem?_append_left (by simp;omega),getElem?_map,h1]
   rfl
  .rw [getElem?_append_right (by simpa using z)]at hi
   have:=mem_of_getElem? hi
   rw[mem_replicate]at this
   cases this.2
 .unfold Xgg at hi
  by_cases z:i<ds.length
  .rw [getElem?_append_left (by simpa using z),getElem?_map,getElem?_eq_getElem z]at hi
   simp at hi
  .rw [getElem?_append_right (by simpa using z)]at hi
   have:=mem_of_getElem? hi
   rw[mem_replicate]at this
   cases this.2
end
theorem CalV.of {P:Program}{w:World}{K:Frag}{mg:Str->Option Value}{base:Heap}{x:Str}{st:Stmt}{f:Addr}{fd:FuncData}{N ps:List Str}{k n:Nat}{sp:DSp}(Df:DefAt K mg x st f fd)(S:FnScope N ps (Xaf st))
  (hb:∀(kV doc pm:Value) (an:Option Addr) (cdv ct:Value) (us:List Value),us.length=ps.length->bindArgs (fnOf x x (Xb9 st) (Xbn st) (Xaf st) .none kV doc pm an cdv ct) ⟨us,[]⟩=pure (ps.zip us)) (hn:n=ps.length)
  (hbody:∀(cdv:Value) (A:Around) (outer:List Env) (s:Shared) (H:Hp) (E:XK),Room k (A.deeper (envOfC x (Xaf st) s.heap.objs.size f cdv))->
   ∃t T,PSs (Xvd CX0 P w K mg base N x (Xaf st) f cdv A outer s H E).nox (Xbn st) t/\Xfn K t T/\∀ds Pr,sp ds Pr->T {nx:=λ_=>Pr (.fz .non),rt:=Pr} (Xgg N ds)):Cal P w K mg base x (k+1) ps (spV K n sp):=
 Cal.of Df S hb (λvs H Q E h=>by rw[<- hn];exact h.1) λcdv A outer s H vs Q E hr h=>by
  obtain⟨_,F,ds,Pr,hs,hr',hsp,hq⟩:=h
  obtain⟨t,T,h1,h2,h3⟩:=hbody cdv A outer s H E hr
  refine⟨t,h1,h2 F H F H (Xe0 N vs) (Xgg N ds) {nx:=λ_=>Pr (.fz .non),rt:=Pr} _ ⟨_,Xj7 hs hr'⟩ ⟨λF' H' Y M e p=>?_,λ_ _ _ _ _ z=>z.elim,λ_ _ _ _ _ z=>z.elim,λF' H' r v x n p=>hq r v F' H' p x n⟩ (h3 ds Pr hsp)⟩
  exact hq _ _ F' H' p e.ext (.fz rfl)
section
variable {X:Cx}{K:Frag}
def D.tyN:D->String
 | .int _ => "int"
 | .bl _ => "bool"
 | .non => "NoneType"
 | .str _ => "str"
 | .ty _ => "type"
 | .fn _ => "function"
 | .tup _ => "tuple"
 | .lst _ => "list"
 | .dic => "dict"
 | .exc _ => "exception"
 | .obj _ _ _ => "object"
def Yka (K:Frag):List V->Hp->VK->Prop:=λxs H Q=>∃d v n b,xs=[v,.ty n]/\Rep K H d v/\((∀m,d≠.ty m)/\(∀x,d≠.fn x)/\(∀x,d≠.exc x)/\∀c ns ds,d≠.obj c ns ds)/\kitOne K (.type d.tyN) (.type n)=some b/\Q (.bl b) H
theorem Xeu:Xhq X (.builtin "isinstance") (Yka X.K):=by
 intro pins s Y H xs us Q I r h
 obtain⟨d,x,n,b,rfl,rp,⟨hty,hfn,hex,hany⟩,e,q⟩:=h
 obtain⟨u,w',rfl,r1,r2⟩:=Ycl r
 cases r2
 have fin:∀tk,EP X pins Y Q (.bool b) {s with toks:=tk}:=λtk=>⟨.bl b,H,I.tok tk,rfl,q⟩
 cases d with
 |int i=>cases rp;exact Xkw I r1 (TyOf.int i) e fin
 |bl i=>cases rp;exact Xkw I r1 (TyOf.bl i) e fin
 |non=>cases rp;exact Xkw I r1 TyOf.non e fin
 |str i=>cases rp;exact Xkw I r1 (TyOf.str i) e fin
 |ty i=>exact absurd rfl (hty i)
 |fn i=>exact absurd rfl (hfn i)
 |tup ds=>
  obtain⟨a,vs,rfl,h1,h2⟩:=rp
  cases (show u=Value.ref a from r1)
  obtain⟨its,rv,p,hz⟩:=I.tuple h1
  obtain⟨o,q1,q2,_⟩:=p
  exact kia_one kitx_tuple I.kIn ⟨o,q1,q2⟩ e (λz=>nomatch z) fin
 |lst ds=>
  obtain⟨a,vs,rfl,h1,h2⟩:=rp
  cases (show u=Value.ref a from r1)
  obtain⟨its,rv,p,hz⟩:=I.list h1
  obtain⟨o,q1,q2,_⟩:=p.isList
  exact kia_one kitx_list I.kIn ⟨o,q1,q2⟩ e (λz=>nomatch z) fin
 |dic=>
  obtain⟨a,rfl,h1⟩:=rp
  cases (show u=Value.ref a from r1)
  obtain⟨⟨o,q1,q2⟩,_,_⟩:=I.hok a _ h1
  exact kia_one kitx_dict I.kIn ⟨o,q1,q2⟩ e (λz=>nomatch z) fin
 |exc c=>exact absurd rfl (hex c)
 |obj c ns ds=>exact absurd rfl (hany c ns ds)
def Ynb (d:D)(n:String):Bool:=match d with
 | .int _=>n == "int"
 | .bl _=>n == "bool" ||n == "int"
 | .str _=>n == "str"
 | .tup _=>n == "tuple"
 | .lst _=>n == "list"
 |_=>false
def Xu0:List String:=["int","bool","str","tuple","list"]
structure KitV (K:Frag):Prop where
 all:∀d:D,((∀m,d≠.ty m)/\(∀x,d≠.fn x)/\(∀x,d≠.exc x)/\∀c ns ds,d≠.obj c ns ds)->∀n∈Xu0,kitOne K (.type d.tyN) (.type n)=some (Ynb d n)
def Ync:List D->(D->Prop)->Prop:=λds P=>match ds with
 | [.ty _,.ty _]=>False
 | [.fn _,.ty _]=>False
 | [.exc _,.ty _]=>False
 | [.obj _ _ _,.ty _]=>False
 | [d,.ty n]=>n∈Xu0/\P (.bl (Ynb d n))
 |_=>False
theorem Xmd (KT:KitV K):CbS K (Yka K) Ync:=λF H ds vs P Q s rs w q=>by
 unfold Ync at w
 split at w
 .exact w.elim
 .exact w.elim
 .exact w.elim
 .exact w.elim
 .rename_i d n h1 h0 h2 h3
  obtain⟨v,u,rfl,r1,r2⟩:=Xz4 rs
  have ht:∀m,d≠.ty m:=λm z=>h1 m z
  have hf:∀m,d≠.fn m:=λm z=>h0 m z
  have hx:∀m,d≠.exc m:=λm z=>h2 m z
  have hy:∀c ns ds,d≠.obj c ns ds:=λc ns ds z=>h3 c ns ds z
  exact⟨d,v,n,_,by rw[show u=_ from r2],r1,⟨ht,hf,hx,hy⟩,KT.all d ⟨ht,hf,hx,hy⟩ n w.1,q _ _ F H w.2 (Ext.refl s) rfl⟩
 .exact w.elim
theorem Ym5 {g:Int->Int->Int}:OpS K (ipI g) (rI2 λi j=>.int (g i j)):=λF H x y v u P Q s rx ry w q=>by
 obtain⟨i,j,rfl,rfl,p⟩:=Yaa w
 exact⟨i,j,rx,ry,q _ _ F H p (Ext.refl s) rfl⟩
theorem Xw7 {α:Type}{a:α}{xs:List α}:atI (a::xs) 0=some a:=Xhp (j:=0) rfl
theorem Yge {α:Type}{a b:α}{xs:List α}:atI (a::b::xs) 1=some b:=Xhp (j:=1) rfl
theorem Ygd {α:Type}{a b c:α}{xs:List α}:atI (a::b::c::xs) 2=some c:=Xhp (j:=2) rfl
theorem Ygc {α:Type}{a b c d:α}{xs:List α}:atI (a::b::c::d::xs) 3=some d:=Xhp (j:=3) rfl
theorem Ymc {α:Type}{a b c d e:α}{xs:List α}:atI (a::b::c::d::e::xs) 4=some e:=Xhp (j:=4) rfl
theorem Xi8 {xs:List Int}{i:Int}(h0:0<=i)(h:i<xs.length):atI (xs.map D.int) i=some (.int (xs.getD i.toNat 0)):=by
 have hi:i.toNat<xs.length:=by omega
 have e:=Xhp (xs:=xs.map D.int) (j:=i.toNat) (v:=.int (xs.getD i.toNat 0)) (by simp[hi])
 rwa[show ((i.toNat:Nat):Int)=i by omega]at e
theorem Xwp {xs:List Int}:D.lfs (xs.map D.int)=true:=by
 rw[D.lfs_eq];simp[D.lf]
theorem Ybp {ds:List D}:OV.vals (ds.map OV.fz)=ds:=by
 rw[OV.vals_eq,map_map]
 simp[Function.comp_def,OV.val]
theorem Yoi {i j:Int}(h1 : -1000000<=i)(h2:i<=1000000):Yjc i j:=.inl ⟨by omega,by omega⟩
theorem Ymk {i j:Int}(h1 : -1000000<=j)(h2:j<=1000000):Yjc i j:=.inr ⟨by omega,by omega⟩
theorem Xs6 {α β:Type}{xs:List α}{f:α->β}{i:Nat}{d:β}(h:(xs.map f)[i]?=some d):∃x,xs[i]?=some x/\d=f x:=by
 rw[getElem?_map]at h
 cases q:xs[i]? with
 |none=>rw[q]at h;cases h
 |some x=>rw[q]at h;exact⟨x,rfl,(Option.some.inj h).symm⟩
theorem Ygj {xs:List Int}:List.map OV.val (xs.map λx=>OV.fz (D.int x))=xs.map D.int:=by
 rw[map_map];rfl
theorem Ybm {xs:List Int}{i:Int}(h0:0<=i)(h:i<xs.length):(xs.map λx=>OV.fz (D.int x))[i.toNat]?=some (.fz (.int (xs.getD i.toNat 0))):=by
 have hi:i.toNat<xs.length:=by omega
 simp[hi]
theorem Ygx {xs:List Int}{i:Nat}{v:Int}:(xs.map λx=>OV.fz (D.int x)).set i (.fz (.int v))=(xs.set i v).map λx=>OV.fz (D.int x):=by
 rw[List.map_set]
theorem Yi2 {xs:List Int}{v:Int}:(xs.map λx=>OV.fz (D.int x))++[.fz (.int v)]=(xs++[v]).map λx=>OV.fz (D.int x):=by
 rw[map_append];rfl
theorem Ylk {xs:List Int}:(xs.map D.int).map OV.fz=xs.map λx=>OV.fz (D.int x):=by
 rw[map_map];rfl
theorem Yk0:("int"∈Xu0)=True:=eq_true (by decide)
theorem Yih:("bool"∈Xu0)=True:=eq_true (by decide)
theorem Yea:("tuple"∈Xu0)=True:=eq_true (by decide)
theorem Yig:("list"∈Xu0)=True:=eq_true (by decide)
theorem Ym6:(Int.natAbs 10<2^64)=True:=eq_true (by decide)
theorem Xme.map {α:Type}{Eo:DO}{o:Option Sl}{Xht:Dst}{P:OV->Prop}(xs:List α)(g:α->D)(f:α->OV)(hn:xs.length<=1000000)
  (h:∀x∈xs,∀Q:OV->Prop,Q (f x)->Eo (some (.own (.fz (g x)))::Xht) Q) (k:P (.nl (xs.map f))):Xme (gN 0) Eo (xs.map g) (o::Xht) P:=by
 refine⟨λi M ts=>∃o,M=o::Xht/\ts=(xs.take i).map f,⟨o,rfl,by simp⟩,?_,?_⟩
 .rintro i d M ts hd ⟨o,rfl,rfl⟩
  obtain⟨x,hx,rfl⟩:=Xs6 hd
  obtain⟨hi,e⟩:=List.getElem?_eq_some_iff.mp hx
  refine⟨by rw[length_map,length_take];omega,h x (mem_of_getElem? hx) _ ⟨_,rfl,?_⟩⟩
  rw[take_succ_eq_append_getElem hi,e,map_append]
  rfl
 .rintro M ts ⟨o,rfl,rfl⟩
  rw[length_map,take_length]
  exact k
theorem Xme.rng {Eo:DO}{o:Option Sl}{Xht:Dst}{P:OV->Prop}{lo c:Int}{n:Nat}(f:Nat->OV)(hn:n<=1000000)
  (h:∀i,i<n->∀Q:OV->Prop,Q (f i)->Eo (some (.own (.fz (.int (lo+i*c))))::Xht) Q) (k:P (.nl ((List.range n).map f))):Xme (gN 0) Eo (rng lo c n) (o::Xht) P:=
 Xme.map (List.range n) _ f (by simpa using hn) (λi hi Q q=>h i (mem_range.mp hi) Q q) k
theorem Ye6 {T U:DS}{De:DEnds}{M:Dst}(h:∀N:Dst->Prop,(∀M',U De M'->N M')->T {De with nx:=N} M):Ymu T U De M:=h _ λ_ z=>z
theorem KitV.of (t1:kitOne K (.type "int") (.type "int")=some true)(t2:kitOne K (.type "int") (.type "bool")=some false)(t3:kitOne K (.type "int") (.type "str")=some false)(t4:kitOne K (.type "int") (.type "tuple")=some false)(t5:kitOne K (.type "int") (.type "list")=some false)(t6:kitOne K (.type "bool") (.type "int")=some true)(t7:kitOne K (.type "bool") (.type "bool")=some true)(t8:kitOne K (.type "bool") (.type "str")=some false)(t9:kitOne K (.type "bool") (.type "tuple")=some false)(t10:kitOne K (.type "bool") (.type "list")=some false)(t11:kitOne K (.type "NoneType") (.type "int")=some false)(t12:kitOne K (.type "NoneType") (.type "bool")=some false)(t13:kitOne K (.type "NoneType") (.type "str")=some false)(t14:kitOne K (.type "NoneType") (.type "tuple")=some false)(t15:kitOne K (.type "NoneType") (.type "list")=some false)(t16:kitOne K (.type "str") (.type "int")=some false)(t17:kitOne K (.type "str") (.type "bool")=some false)(t18:kitOne K (.type "str") (.type "str")=some true)(t19:kitOne K (.type "str") (.type "tuple")=some false)(t20:kitOne K (.type "str") (.type "list")=some false)(t21:kitOne K (.type "tuple") (.type "int")=some false)(t22:kitOne K (.type "tuple") (.type "bool")=some false)(t23:kitOne K (.type "tuple") (.type "str")=some false)(t24:kitOne K (.type "tuple") (.type "tuple")=some true)(t25:kitOne K (.type "tuple") (.type "list")=some false)(t26:kitOne K (.type "list") (.type "int")=some false)(t27:kitOne K (.type "list") (.type "bool")=some false)(t28:kitOne K (.type "list") (.type "str")=some false)(t29:kitOne K (.type "list") (.type "tuple")=some false)(t30:kitOne K (.type "list") (.type "list")=some true)(t31:kitOne K (.type "dict") (.type "int")=some false)(t32:kitOne K (.type "dict") (.type "bool")=some false)(t33:kitOne K (.type "dict") (.type "str")=some false)(t34:kitOne K (.type "dict") (.type "tuple")=some false)(t35:kitOne K (.type "dict") (.type "list")=some false):KitV K:=by
 refine⟨λd ⟨hd,hd2,hd3⟩ n hn=>?_⟩
 simp only[Xu0,mem_cons,mem_nil_iff,or_false]at hn
 cases d with
 |ty m=>exact absurd rfl (hd m)
 |fn m=>exact absurd rfl (hd2 m)
 |int _=>
  rcases hn with rfl |rfl |rfl |rfl |rfl
  .exact t1
  .exact t2
  .exact t3
  .exact t4
  .exact t5
 |bl _=>
  rcases hn with rfl |rfl |rfl |rfl |rfl
  .exact t6
  .exact t7
  .exact t8
  .exact t9
  .exact t10
 |non=>
  rcases hn with rfl |rfl |rfl |rfl |rfl
  .exact t11
  .exact t12
  .exact t13
  .exact t14
  .exact t15
 |str _=>
  rcases hn with rfl |rfl |rfl |rfl |rfl
  .exact t16
  .exact t17
  .exact t18
  .exact t19
  .exact t20
 |tup _=>
  rcases hn with rfl |rfl |rfl |rfl |rfl
  .exact t21
  .exact t22
  .exact t23
  .exact t24
  .exact t25
 |lst _=>
  rcases hn with rfl |rfl |rfl |rfl |rfl
  .exact t26
  .exact t27
  .exact t28
  .exact t29
  .exact t30
 |dic=>
  rcases hn with rfl |rfl |rfl |rfl |rfl
  .exact t31
  .exact t32
  .exact t33
  .exact t34
  .exact t35
 |exc m=>exact absurd rfl (hd3.1 m)
 |obj c ns ds=>exact absurd rfl (hd3.2 c ns ds)
end
end L2
namespace PySem
open AutoSeq1
abbrev Xx7 (T:String)(od:Option Addr)(xs:Array Value)(k:Nat)(sl:Array (Option Value)):Obj:={cls:=.type T,dict:=od,data:=.seq xs k,slots:=sl}
theorem Xpb (l b:Addr)(xs ys:Array Value)(k m:Nat)(od:Option Addr)(sl:Array (Option Value))(h0:¬(!xs.isEmpty && Builtin.List.listTooLong (xs.size+ys.size))=true)(h1:xs.size<=sizeLine)(h2:xs.size+ys.size<=sizeLine+1):
  Meets (Builtin.«list.extend» ⟨[.ref l,.ref b],[]⟩) (λ_ R s=>s.heap.get? l=some (Xx7 "list" none xs k #[])/\s.heap.get? b=some (Xx7 "list" od ys m sl)/\R (.ok (.ret .none)) {s with heap:=s.heap.update l (Obj.mapSeq (·++ys)),toks:=s.toks}):=by
 refine .of_wp λprog w A R s hR=>?_
 obtain⟨sh,sg,sd,st,so⟩:=s
 obtain⟨e1,e2,fin⟩:=hR
 have i1:=idx_int
 have i2:=sub_tuple_tuple
 have i3:=sub_list_list
 have i4:=sub_tuple_list
 have i5:=sub_list_tuple
 have room:(xs++ys).size<=sizeLine+1:=by
  rw[size_append]
  exact h2
 wp_walk using (wpAny_updateSeq e1 rfl (hz:=h1) (_hz':=room)),wpAny_loadPart' e1,wpAny_loadPart' e2
 exact⟨_,rfl,fin⟩
theorem Xn8 (l b:Addr)(xs ys:Array Value)(k m:Nat)(od:Option Addr)(sl:Array (Option Value))(h0:¬(!xs.isEmpty && Builtin.List.listTooLong (xs.size+ys.size))=true)(h1:xs.size<=sizeLine)(h2:xs.size+ys.size<=sizeLine+1):
  Meets (Builtin.«list.extend» ⟨[.ref l,.ref b],[]⟩) (λ_ R s=>s.heap.get? l=some (Xx7 "list" none xs k #[])/\s.heap.get? b=some (Xx7 "tuple" od ys m sl)/\R (.ok (.ret .none)) {s with heap:=s.heap.update l (Obj.mapSeq (·++ys)),toks:=s.toks}):=by
 refine .of_wp λprog w A R s hR=>?_
 obtain⟨sh,sg,sd,st,so⟩:=s
 obtain⟨e1,e2,fin⟩:=hR
 have i1:=idx_int
 have i2:=sub_tuple_tuple
 have i3:=sub_list_list
 have i4:=sub_tuple_list
 have i5:=sub_list_tuple
 have room:(xs++ys).size<=sizeLine+1:=by
  rw[size_append]
  exact h2
 wp_walk using (wpAny_updateSeq e1 rfl (hz:=h1) (_hz':=room)),wpAny_loadPart' e1,wpAny_loadPart' e2
 exact⟨_,rfl,fin⟩
theorem Xuv (l b:Addr)(xs ys:Array Value)(k m:Nat)(od oe:Option Addr)(sl sm:Array (Option Value))(h0:xs.size+ys.size<=sizeLine):
  Meets (Builtin.«list.__add__» ⟨[.ref l,.ref b],[]⟩) (λ_ R s=>s.heap.get? l=some (Xx7 "list" od xs k sl)/\s.heap.get? b=some (Xx7 "list" oe ys m sm)/\R (.ok (.ret (.ref s.heap.objs.size))) {s with heap:=s.heap.push {cls:=.type "list",data:=.seq (xs++ys)},toks:=s.toks}):=by
 refine .of_wp λprog w A R s hR=>?_
 obtain⟨sh,sg,sd,st,so⟩:=s
 obtain⟨e1,e2,fin⟩:=hR
 have i1:=idx_int
 have i2:=sub_tuple_tuple
 have i3:=sub_list_list
 have i4:=sub_tuple_list
 have i5:=sub_list_tuple
 wp_walk using wpAny_loadPart' e1,wpAny_loadPart' e2
 exact⟨_,rfl,fin⟩
end PySem
namespace L2
open PySem PySem.Spec PyProof.Rows
section
variable {X:Cx}{K:Frag}
def Xv9 (K:Frag):V->List V->Hp->VK->Prop:=λx vs H Q=>∃l b xs zs,x = .ref l/\vs=[.ref b]/\H l=some (.lst xs)/\(SqL K H b zs∨SqT K H b zs)/\xs.length+zs.length<=sizeLine/\Q .non (upd H l (.lst (xs++zs)))
theorem Xpv:MtM X "list.extend" (Xv9 X.K):=by
 intro pins s Y H x vs v us Q I rx rv h
 obtain⟨l,b,xs,zs,rfl,rfl,hH,hB,hz,q⟩:=h
 cases rx
 obtain⟨u,rfl,ru⟩:=rv.one
 cases ru
 obtain⟨z,its,n,r,hl,e⟩:=I.lstM hH
 have room:∀ys:List Value,ys.length=zs.length->its.toArray.size+ys.toArray.size<=sizeLine:=λys hy=>by rw[size_toArray,size_toArray];omega
 have fits:∀ys:List Value,ys.length=zs.length->¬ (!its.toArray.isEmpty && Builtin.List.listTooLong (its.toArray.size+ys.toArray.size))=true:=λys hy=>by
  rw[Xwm (room ys hy),Bool.and_false]
  exact Bool.false_ne_true
 have fin:∀ys:List Value,Xcd zs ys->EP X pins Y Q .none {s with heap:=s.heap.update l (Obj.mapSeq (·++ys.toArray)),toks:=s.toks}:=λys ry=>
  ⟨.non,_,I.lset (its':=its++ys) hH e (by simp) (r.append ry) (by rw[length_append];omega),rfl,q⟩
 rcases hB with hB |hB
 .obtain ⟨ys,ry,⟨o,m,e2,o1,o2,o3⟩,_⟩:=I.list hB
  obtain⟨oc,od,oda,osl⟩:=o
  dsimp only at o1 o3
  subst o1 o3
  have hy:=ry.length
  exact call_meets F.slot_list_extend ⟨_,e,rfl⟩ F.entry_list_extend (F.args_list_extend_2 _ _) (Xpb l b its.toArray ys.toArray n m od osl (fits ys hy.symm) (by rw[size_toArray];omega) (by have:=room ys hy.symm;omega)) ⟨e,e2,fin ys ry⟩
 .obtain ⟨ys,ry,⟨o,e2,o1,m,o3⟩,_⟩:=I.tuple hB
  obtain⟨oc,od,oda,osl⟩:=o
  dsimp only at o1 o3
  subst o1 o3
  have hy:=ry.length
  exact call_meets F.slot_list_extend ⟨_,e,rfl⟩ F.entry_list_extend (F.args_list_extend_2 _ _) (Xn8 l b its.toArray ys.toArray n m od osl (fits ys hy.symm) (by rw[size_toArray];omega) (by have:=room ys hy.symm;omega)) ⟨e,e2,fin ys ry⟩
def Ykd (K:Frag):R2:=λx y H Q=>∃l b xs zs,x = .ref l/\y = .ref b/\SqL K H l xs/\SqL K H b zs/\xs.length+zs.length<=sizeLine/\∀p H',H p=none->Xbi H H'->H' p=some (.lst (xs++zs))->Q (.ref p) H'
theorem Yas:OpR X (binaryOp .Add) (Ykd X.K):=by
 intro pins s Y H x y v u Q I rx ry h
 obtain⟨l,b,xs,zs,rfl,rfl,hA,hB,hz,q⟩:=h
 cases rx
 cases ry
 obtain⟨its,r,⟨o,n,e,o1,o2,o3⟩,_⟩:=I.list hA
 obtain⟨its2,r2,⟨o',n2,e2,p1,p2,p3⟩,_⟩:=I.list hB
 obtain⟨oc,od,oda,osl⟩:=o
 obtain⟨pc,pd,pda,psl⟩:=o'
 dsimp only at o1 o3 p1 p3
 subst o1 o3 p1 p3
 have l1:=r.length
 have l2:=r2.length
 refine PySem.concat_meets ⟨_,e,rfl⟩ ⟨_,e2,rfl⟩ PySem.noFill_list_add PySem.seq_list_add F.slot_list_add F.entry_list_add (F.args_list_add_2 _ _) (Xuv l b its.toArray its2.toArray n n2 od pd osl psl (by rw[size_toArray,size_toArray];omega)) ⟨e,e2,?_⟩
 have ea:its.toArray++its2.toArray=(its++its2).toArray:=by simp
 rw[ea]
 exact⟨.ref _,_,I.lnew (t':=s.toks) (r.append r2) (by rw[length_append];omega),rfl,q _ _ I.fresh (Xbi.new I.fresh) Xa3⟩
def dCatL (Ea Eb:DE):DO:=λM P=>Ea M λx=>Eb M λy=>match x,y with
 | .lst xs,.lst ys=>xs.length+ys.length<=1000000/\P (.nl ((xs++ys).map .fz))
 |_,_=>False
def Itw (K:Frag)(a:Addr)(n:Nat):It:=
 ⟨λi H=>∃xs x,SqL K H a xs/\xs.length=n/\i<n/\xs[n-1-i]?=some x,λi H x H'=>H'=H/\∀xs,SqL K H a xs->xs[n-1-i]?=some x,λi _=>n<=i⟩
theorem Xys {P:Program}{w:World}{K:Frag}{tg:Expr}(a it:Addr)(n:Nat):Turn P w K tg (Itw K a n) [it] it (λi h=>i<=n/\h.IsRevIter it a ((n:Int)-1-(i:Nat))) where
 mem:=by simp
 obj:=λi h st b hb=>by
  have e:b=it:=by simpa using hb
  subst e
  obtain⟨_,o,ho,_,hd⟩:=st
  exact⟨o,ho,λv z=>by rw[hd]at z;cases z⟩
 keep:=λi h h' st k=>⟨st.1,st.2.at λo e=>k it (by simp) o e⟩
 item:=by
  intro X hP hw hK hc i pins s Y H E I hf st hg
  subst hP hw hK
  obtain⟨xs,x,hq,hn,hi,hx⟩:=hg
  obtain⟨its,rv,p,hz⟩:=I.list hq
  obtain⟨u,hu,ru⟩:=rv.get hx
  obtain⟨f0,f1,f2,f3,f4,f5⟩:=hf it (by simp)
  have st0:s.heap.IsRevIter it a (((n-1-i:Nat)):Int):=by
   have e:(((n-1-i:Nat)):Int)=(n:Int)-1-(i:Nat):=by omega
   rw[e];exact st.2
  refine PySem.wpAny_pyNext_rev_item st0 p.isList (x:=u) (by simpa using hu) λh' st' sb=>?_
  have I1:Inv X pins Y H {s with heap:=h',toks:=s.toks}:=I.turned (t':=s.toks) (λb o hb e=>(sb.2 b hb).trans e) f0 f1 f3 f4 f5
  have st1:h'.IsRevIter it a ((n:Int)-1-((i+1:Nat):Int)):=by
   have e:(n:Int)-1-((i+1:Nat):Int)=(((n-1-i:Nat)):Int)-1:=by omega
   rw[e];exact st'
  obtain⟨o,ho,hc',hd'⟩:=id st1
  exact⟨u,rfl,Xtc (s:={s with heap:=h',toks:=s.toks}) (n := "list_reverseiterator") ho hc' hd' (by decide) ⟨x,H,I1,ru,⟨rfl,λys hy=>by rw[I.list_inj hy hq];exact hx⟩,⟨by omega,st1⟩,λb hb=>(hf b hb).1⟩⟩
 done:=by
  intro X hP hw hK hc i pins s Y H E I hf st hg
  subst hP hw hK
  obtain⟨f0,f1,f2,f3,f4,f5⟩:=hf it (by simp)
  have st0:s.heap.IsRevIter it a (-1):=by
   have h1:=st.1
   have h2:n<=i:=hg
   have e:(-1:Int)=(n:Int)-1-(i:Nat):=by omega
   rw[e];exact st.2
  exact PySem.wpAny_pyNext_rev_end (I.ok.hd hc) st0 λh' eb=>⟨rfl,I.turned (t':=s.toks) (λb o hb e=>eb b o hb e) f0 f1 f3 f4 f5⟩
 self:=λ_ _ _ _ _ st h=>PySem.wpAny_pyIter_revIter st.2 h
def Ylh (K:Frag)(ta:TA):TI:=λY H R=>ta Y H λvs H1=>∃a xs,vs=[.ref a]/\SqL K H1 a xs/\R (Itw K a xs.length) H1
theorem Xsr {tg l:Expr}{ta:TA}{p pos:Pos}(hg:Gl X "reversed")(hm:X.mg "reversed"=none)(ha:PA X [l] ta)(hs:starEach [l] X.env=[(false,eval l X.env)]:=by rfl):PI X tg (.Call (.Name "reversed" p) [l] [] pos) (Ylh X.K ta):=by
 intro pins s Y H R I h
 refine Call_ (Xgn I hg hm PyProof.Rows.boot_reversed (PyProof.Rows.callWith_type1 (thn (ha pos pins s Y H _ I h) λus s1 ⟨vs,H1,I1,r1,q1⟩=>?_) hs rfl))
 obtain⟨a,xs,e,hq,q⟩:=q1
 subst e
 obtain⟨u,rfl,ru⟩:=Xhx r1
 cases ru
 obtain⟨its,rv,pt,hz⟩:=I1.list hq
 have hl:=rv.length
 refine PySem.call_reversed_list (items:=its.toArray) pt.isList ?_
 have e0:(s1.heap.push (revObj a ((its.toArray.size:Int)-1))).IsRevIter s1.heap.objs.size a ((xs.length:Int)-1-((0:Nat):Int)):=by
  have e:(xs.length:Int)-1-((0:Nat):Int)=(its.toArray.size:Int)-1:=by rw[size_toArray,hl];omega
  rw[e]
  exact⟨_,get?_push_size _ rfl,rfl,rfl⟩
 refine PySem.wpAny_pyIter_revIter e0 ?_
 refine⟨s1.heap.objs.size,[s1.heap.objs.size],_,_,H1,rfl,I1.kept (t':=s1.toks) λb o e=>get?_push_of_some _ e,Xys a _ xs.length,⟨zero_le _,e0⟩,λb hb=>?_,q⟩
 have e:b=s1.heap.objs.size:=by simpa using hb
 subst e
 exact I1.fpOk (Nat.le_refl _) (I1.hok.fresh (Nat.le_refl _))
def Yls (As:DA):DA:=λM P=>As M λds=>match ds with
 | [.lst xs]=>P xs.reverse
 |_=>False
theorem Yg6 {a:TA}{As:DA}(h:Xiy K a As):Xyj K (Ylh K a) (Yls As):=λF0 H0 F H Y M P R e w q=>h F0 H0 F H Y M _ _ e w λds vs F' H' p x r=>by
 try dsimp only at p
 split at p
 .obtain ⟨v,rfl,a,us,rfl,h1,h2⟩:=Xhf r
  have hl:=h2.length
  refine⟨a,us,rfl,x.fh.seq h1,q _ _ F' H' p x λF1 H1 s1 s2=>?_⟩
  have hq:=(s1.trans s2).seq h1
  rw[length_reverse]
  refine⟨λi hi=>⟨us,us[us.length-1-i]'(by omega),hq,rfl,by omega,getElem?_eq_getElem (by omega)⟩,by show us.length<=_;omega,λi x H2 hi y=>?_⟩
  obtain⟨rfl,y⟩:=y
  obtain⟨d,hd,rd⟩:=h2.get' (y us hq)
  refine⟨d,F1,?_,Ext.refl s2,rd.mono s1⟩
  rw[getElem?_reverse hi,hl];exact hd
 .exact p.elim
theorem ER.frz {F0 H0 F H:Hp}{Y:St}{M:Dst}{A:Nat->List Addr}(e:ER K F0 H0 F H Y M A)(i:Nat){t:OV}(hi:M[i]?=some (some (.own t))):∃F',Xfo K F0 H0 F' H Y (M.set i (some (.own (.fz t.val)))):=by
 obtain⟨v,hv,hr⟩:=e.own i t hi
 have hlt:=(List.getElem?_eq_some_iff.mp hi).1
 have sm:Xbi F λa=>if a∈A i then H a else F a:=λb o z=>by
  have hb:b∉A i:=λy=>by rw[(e.new i b y).1]at z;cases z
  dsimp only
  rw[if_neg hb];exact z
 refine⟨λa=>if a∈A i then H a else F a,λj=>if j=i then [] else A j,by simp[e.len],⟨e.ext.ff.trans sm,e.ext.hh,λb o z=>?_,λb o z1 z2 z3=>?_⟩,λj u hj=>?_,λj d hj=>?_,λj=>?_,λj k a hjk h1 h2=>?_,λj a ha=>?_⟩
 .try dsimp only at z
  split at z
  .exact z
  .exact e.ext.fh _ _ z
 .have hb:b∉A i:=λy=>by rw[(e.new i b y).2.1]at z2;cases z2
  rw[if_neg hb];exact e.ext.no b o z1 z2 z3
 .try dsimp only
  by_cases z:j=i
  .subst z
   rw[if_pos rfl]
   rw[getElem?_set_self hlt]at hj
   cases hj
   exact⟨v,hv,rfl,hr.rep sm λa ha xs q=>by rw[if_pos ha];exact q⟩
  .rw [if_neg z]
   rw[getElem?_set_ne (Ne.symm z)]at hj
   obtain⟨v',h1,h2⟩:=e.own j u hj
   exact⟨v',h1,h2.frame sm λa _ xs q=>q⟩
 .by_cases z:j=i
  .subst z
   rw[getElem?_set_self hlt]at hj
   cases hj
  .rw [getElem?_set_ne (Ne.symm z)]at hj
   exact e.bw j d hj
 .try dsimp only
  split
  .exact nodup_nil
  .exact e.nod j
 .try dsimp only at h1 h2
  split at h1
  .cases h1
  .split at h2
   .cases h2
   .exact e.dis j k a hjk h1 h2
 .try dsimp only at ha
  split at ha
  .cases ha
  .rename_i z
   obtain⟨h1,h2,h3⟩:=e.new j a ha
   refine⟨?_,h2,h3⟩
   rw[if_neg λy=>e.dis j i a z ha y];exact h1
def Ymv (i:Nat)(T:DS):DS:=λDe M=>match M[i]? with
 |some (some (.own t))=>T De (M.set i (some (.own (.fz t.val))))
 |_=>False
theorem Ye9 {t:TS}{T:DS}(i:Nat)(h:Xfn K t T):Xfn K t (Ymv i T):=λF0 H0 F H Y M De En ⟨A,e⟩ l w=>by
 unfold Ymv at w
 split at w
 .rename_i u hu
  obtain⟨F',e'⟩:=e.frz i hu
  exact h F0 H0 F' H Y _ De En e' l w
 .exact w.elim
def Yhh (i:Nat)(Ei:DE)(E:DO):DS:=λDe M=>match M[i]? with
 |some (some (.own (.nl ts)))=>Ei M λk=>match k with
  | .int k=>0<=k/\∃us,ts[k.toNat]?=some (.nl us)/\us.length<1000000/\E M λr=>De.nx (M.set i (some (.own (.nl (ts.set k.toNat (.nl (us++[r])))))))
  |_=>False
 |_=>False
theorem Xd9 {α:Type}{xs:List α}{i:Nat}{v:α}(h:xs[i]?=some v):xs.set i v=xs:=by
 obtain⟨hi,e⟩:=List.getElem?_eq_some_iff.mp h
 rw[<- e];exact List.set_getElem_self hi
theorem Yg1 {i:Nat}{ti te:TE}{Ei:DE}{Eo:DO}(hi:Xhv K ti Ei)(h:Xj5 K te Eo):Xfn K (Xov (tBM K "list" rAppend (tOp (Ymh K) (Xm7 i) ti) (Xla te Xvq))) (Yhh i Ei Eo):=λF0 H0 F H Y M De En e l w=>by
 obtain⟨A,e⟩:=e
 unfold Yhh at w
 split at w
 .rename_i ts hs
  obtain⟨v,hv,a,vs,B,rfl,eA,ha,hB⟩:=e.own i _ hs
  refine⟨_,hv,?_⟩
  refine hi F0 H0 F H Y M _ _ ⟨A,e⟩ w λk kv F1 H1 p x1 r1=>?_
  split at p
  .rename_i k
   obtain⟨k0,us,hk,hus,p⟩:=p
   have e1:=e.on x1
   have ha1:=x1.hh _ _ ha
   have hB1:Xa6 K F1 H1 ts vs B:=hB.frame x1.ff λb _ xs z=>x1.hh _ _ z
   obtain⟨v0,A1,B0,A2,f1,rfl,f3,f4⟩:=hB1.focus hk
   obtain⟨c,ws,B1,rfl,rfl,hc,hws⟩:=f3
   have at1:atI vs k=some (.ref c):=by
    have:=Xhp f1
    rwa[show ((k.toNat:Nat):Int)=k by omega]at this
   refine⟨a,vs,k,.ref c,rfl,r1,SqL.of ha1,at1,.inl ⟨rfl,_,SqL.of hc⟩,?_⟩
   refine h F0 H0 F1 H1 Y M _ _ ⟨A,e1⟩ p λr u F2 H2 p2 x2 n=>?_
   obtain⟨C,c1,c2,c3⟩:=n
   have e2:=e1.on x2
   have hl:=hws.length
   refine⟨c,ws,u,rfl,rfl,x2.hh _ _ hc,Xy0 (by omega),?_⟩
   have hnd:=e.nod i
   rw[eA]at hnd
   have hA:A i=a::(A1++(c::B1++A2)):=eA
   obtain⟨n1,n2⟩:=nodup_cons.mp hnd
   obtain⟨m1,m2,m3⟩:=nodup_append.mp n2
   obtain⟨q1,q2,q3⟩:=nodup_append.mp m2
   obtain⟨s1,s2⟩:=nodup_cons.mp q1
   have hCA:∀j b,b∈C->b∉A j:=λj b hb z=>by
    obtain⟨_,_,xs,q,_⟩:=e1.new j b z
    rw[(c3 b hb).1]at q;cases q
   have hcA:c∈A i:=by rw[hA];simp
   have hac:a≠c:=λz=>n1 (by rw[z];simp)
   have hcC:c∉C:=λz=>hCA i c z hcA
   have off:∀b∈A1++A2,b≠c:=λb hb z=>by
    subst z
    rcases mem_append.mp hb with y |y
    .exact m3 b y b (by simp) rfl
    .exact q3 b (by simp) b y rfl
   have ina:∀b,b∈a::(A1++(c::(B1++C)++A2))->b∈A i∨b∈C:=λb hb=>by
    rw[hA]
    simp only[mem_cons,mem_append,cons_append]at hb ⊢
    rcases hb with z |z |z | (z |z) |z<;>simp[z]
   have f4':=f4 F2 (upd H2 c (.lst (ws++[u]))) (.nl (us++[r])) (.ref c) (c::(B1++C)) x2.ff (λb hb xs z=>Xaz (off b hb) (x2.hh _ _ z))
    ⟨c,ws++[u],B1++C,rfl,rfl,Xa3,Xa6.append (hws.frame x2.ff λb hb xs z=>Xaz (λy=>s1 (by rw[<- y];exact hb)) (x2.hh _ _ z)) (Xa6.one (c1.frame (Xbi.refl _) λb hb xs z=>Xaz (λy=>hcC (by rw[<- y];exact hb)) z))⟩
   rw[Xd9 f1]at f4'
   refine l.nx F2 _ Y _ (e2.change i hv (t':=.nl (ts.set k.toNat (.nl (us++[r])))) (B:=a::(A1++(c::(B1++C)++A2))) ⟨a,vs,_,rfl,rfl,Xaz hac (x2.hh _ _ ha1),f4'⟩ ?_ ?_ ?_ ?_) p2
   .have dC:∀x∈C,∀y∈A i,x≠y:=λx hx y hy z=>hCA i x hx (by rw[z];exact hy)
    rw[hA]at dC
    simp only[cons_append,nodup_cons,nodup_append,mem_cons,mem_append,not_or,ne_eq]at hnd n1 n2 m1 m2 m3 q1 q2 q3 s1 s2 ⊢
    refine⟨⟨n1.1,n1.2.1,⟨n1.2.2.1,λz=>dC a z a (by simp) rfl⟩,n1.2.2.2⟩,m1,⟨⟨⟨s1,hcC⟩,λz=>?_⟩,⟨s2,c2,λx hx y hy z=>dC y hy x (by simp[hx]) z.symm⟩,q2,λx hx y hy z=>?_⟩,λx hx y hy z=>?_⟩
    .exact q3 c (by simp) c z rfl
    .rcases hx with hx |hx
     .exact q3 x (by simp[hx]) y hy z
     .exact dC x hx y (by simp[hy]) z
    .rcases hy with hy | (hy |hy) |hy
     .exact m3 x hx y (by simp[hy]) z
     .exact m3 x hx y (by simp[hy]) z
     .exact dC y hy x (by simp[hx]) z.symm
     .exact m3 x hx y (by simp[hy]) z
   .intro b hb
    rcases ina b hb with z |z
    .exact ⟨(e2.new i b z).1,(e2.new i b z).2.1⟩
    .exact ⟨(c3 b z).2,e1.ext.hh.free (c3 b z).1⟩
   .intro j hj b hb z
    rcases ina b hb with y |y
    .exact e.dis j i b hj z y
    .exact hCA j b y z
   .intro b o hb q
    exact Xaz (λz=>hb (by rw[z];exact hcA)) q
  .exact p.elim
 .exact w.elim
def Ymx (i:Nat)(E:DE):DS:=λDe M=>match M[i]? with
 |some (some (.own (.nl ts)))=>E M λd=>match d with
  | .lst ds=>ts.length+ds.length<=1000000/\De.nx (M.set i (some (.own (.nl (ts++ds.map .fz)))))
  | .tup ds=>ts.length+ds.length<=1000000/\De.nx (M.set i (some (.own (.nl (ts++ds.map .fz)))))
  |_=>False
 |_=>False
theorem Yfa {i:Nat}{te:TE}{E:DE}(h:Xey K te E):Xfn K (Xov (tBM K "list" (Xv9 K) (Xm7 i) (Xla te Xvq))) (Ymx i E):=λF0 H0 F H Y M De En e l w=>by
 obtain⟨A,e⟩:=e
 unfold Ymx at w
 split at w
 .rename_i ts hs
  obtain⟨v,hv,a,vs,B,rfl,eA,ha,hB⟩:=e.own i _ hs
  refine⟨_,hv,.inl ⟨rfl,_,SqL.of ha⟩,?_⟩
  refine h F0 H0 F H Y M _ _ ⟨A,e⟩ w λd u F1 H1 p x1 r1=>?_
  have e1:=e.on x1
  have hl:=hB.length
  have hB1:Xa6 K F1 H1 ts vs B:=hB.frame x1.ff λb _ xs z=>x1.hh _ _ z
  have hnd:=e.nod i
  rw[eA]at hnd
  obtain⟨n1,n2⟩:=nodup_cons.mp hnd
  have fin:∀(ds:List D) (us:List V),Xb6 K F1 ds us->De.nx (M.set i (some (.own (.nl (ts++ds.map .fz)))))->En.nx Y (upd H1 a (.lst (vs++us))):=λds us hu p=>by
   refine l.nx F1 _ Y _ (e1.change i hv (t':=.nl (ts++ds.map .fz)) (B:=a::(B++[])) ⟨a,vs++us,B++[],rfl,rfl,Xa3,?_⟩ ?_ ?_ ?_ ?_) p
   .exact Xa6.append (hB1.frame (Xbi.refl _) λb hb xs z=>Xaz (λq=>n1 (by rw[<- q];exact hb)) z) (Xa6.fzs hu)
   .rw [append_nil];exact hnd
   .intro b hb
    rw[append_nil,<- eA]at hb
    exact⟨(e1.new i b hb).1,(e1.new i b hb).2.1⟩
   .intro j hj b hb z
    rw[append_nil,<- eA]at hb
    exact e.dis j i b hj z hb
   .intro b o hb q
    exact Xaz (λz=>hb (by rw[eA,z];exact mem_cons_self)) q
  try dsimp only at p
  split at p
  .obtain ⟨c,us,rfl,q1,q2⟩:=r1
   have:=q2.length
   exact⟨a,c,vs,us,rfl,rfl,x1.hh _ _ ha,.inl (x1.fh.seq q1),Xdp (by omega),fin _ us q2 p.2⟩
  .obtain ⟨c,us,rfl,q1,q2⟩:=r1
   have:=q2.length
   exact⟨a,c,vs,us,rfl,rfl,x1.hh _ _ ha,.inr (x1.fh.seqT q1),Xdp (by omega),fin _ us q2 p.2⟩
  .exact p.elim
 .exact w.elim
end
def Yix:DR2:=λx y P=>match x,y with
 | .tup xs,.tup ys=>xs≠[]/\ys≠[]/\xs.length+ys.length<=1000000/\P (.tup (xs++ys))
 |_,_=>False
def D.fit:Nat->D->Bool
 |_,.int _=>true
 |_,.str _=>true
 |_,.non=>true
 |_,.bl _=>true
 |_,.ty _=>false
 |_,.fn _=>false
 |_,.dic=>false
 |_,.exc _=>false
 |_,.obj _ _ _=>false
 | 0,.tup _=>false
 | 0,.lst _=>false
 |n+1,.tup ds=>ds.all (D.fit n)
 |n+1,.lst ds=>ds.all (D.fit n)
mutual
def D.eqb:D->D->Bool
 | .int i,.int j=>decide (i=j)
 | .str x,.str y=>decide (x=y)
 | .non,.non=>true
 | .bl a,.bl b=>a==b
 | .bl a,.int j=>decide ((if a then 1 else 0)=j)
 | .int i,.bl b=>decide (i=if b then 1 else 0)
 | .tup xs,.tup ys=>D.eqbs xs ys
 | .lst xs,.lst ys=>D.eqbs xs ys
 |_,_=>false
def D.eqbs:List D->List D->Bool
 | [],[]=>true
 |x::xs,y::ys=>D.eqb x y && D.eqbs xs ys
 |_,_=>false
end
mutual
theorem D.eqb_refl:∀{d:D} {n:Nat},d.fit n=true->D.eqb d d=true
 | .int _,_,_=>by simp[D.eqb]
 | .str _,_,_=>by simp[D.eqb]
 | .non,_,_=>by simp[D.eqb]
 | .bl _,_,_=>by simp[D.eqb]
 | .ty _,_,h=>by simp[D.fit]at h
 | .fn _,_,h=>by simp[D.fit]at h
 | .dic,_,h=>by simp[D.fit]at h
 | .exc _,_,h=>by simp[D.fit]at h
 | .obj _ _ _,_,h=>by simp[D.fit]at h
 | .tup ds,0,h=>by simp[D.fit]at h
 | .lst ds,0,h=>by simp[D.fit]at h
 | .tup ds,n+1,h=>by
  simp only[D.eqb]
  exact D.eqbs_refl (n:=n) (by simpa only[D.fit] using h)
 | .lst ds,n+1,h=>by
  simp only[D.eqb]
  exact D.eqbs_refl (n:=n) (by simpa only[D.fit] using h)
theorem D.eqbs_refl:∀{ds:List D} {n:Nat},ds.all (D.fit n)=true->D.eqbs ds ds=true
 | [],_,_=>by simp[D.eqbs]
 |d::ds,n,h=>by
  rw[all_cons,and_eq_true]at h
  simp only[D.eqbs,D.eqb_refl h.1,D.eqbs_refl h.2,Bool.and_self]
end
def D.same:D->D->Bool
 | .tup _,.tup _=>true
 | .lst _,.lst _=>true
 |_,_=>false
def Yop:DR2:=λx y P=>x.same y=true/\x.fit 4=true/\y.fit 4=true/\P (.bl (D.eqb x y))
def Yoh:DR2:=λx y P=>x.same y=true/\x.fit 4=true/\y.fit 4=true/\P (.bl (!D.eqb x y))
def Yno:List D->(D->Prop)->Prop:=λds P=>match ds with
 | [.lst xs]=>∃bs:List Bool,xs=bs.map D.bl/\P (.bl (bs.all id))
 |_=>False
def Ynm:List D->(D->Prop)->Prop:=λds P=>match ds with
 | [.lst xs]=>∃bs:List Bool,xs=bs.map D.bl/\P (.bl (bs.any id))
 |_=>False
def Yh9:List D->(D->Prop)->Prop:=λds P=>match ds with
 | [.lst xs]=>∃ns:List Int,xs=ns.map D.int/\0<ns.length/\∀δ:Int,δ∈ns->(∀a∈ns,a<=δ)->P (.int δ)
 |_=>False
def Yf3 (E:DE):DT:=λM P=>E M λd=>match d with
 | .bl b=>P b
 | .int i=>P (decide (i≠0))
 | .lst xs=>P (!xs.isEmpty)
 | .tup xs=>P (!xs.isEmpty)
 | .non=>P false
 |_=>False
def Yjx (i:Nat)(Ek Em E:DE):DS:=λDe M=>E M λd=>match M[i]? with
 |some (some (.own (.nl ts)))=>Ek M λk=>match k with
  | .int k=>∃j us,ixN ts.length k=some j/\ts[j]?=some (.nl us)/\Em M λm=>match m with
   | .int m=>∃l,ixN us.length m=some l/\De.nx (M.set i (some (.own (.nl (ts.set j (.nl (us.set l (.fz d))))))))
   |_=>False
  |_=>False
 |_=>False
def Xqc {α:Type}(xs:List α)(c:Int):List α:=(sliceRange 0 xs.length c).filterMap (xs[·]?)
def Ylo (Ea Ec:DE):DO:=λM P=>Ea M λx=>Ec M λc=>match x,c with
 | .lst xs,.int c=>0<c/\P (.nl ((Xqc xs c).map .fz))
 |_,_=>False
def Yf9 (n:Nat)(sp:DSp)(dds:List D)(As:DA):DO:=λM P=>As M λds=>(ds++dds).length=n/\sp (ds++dds) P
section
variable {K:Frag}{X:Cx}
theorem Yg9 {ta tb:TE}{Ea Eb:DE}(ha:Xey K ta Ea)(hb:Xey K tb Eb):Xey K (tOp (Yfl K) ta tb) (dOp Yix Ea Eb):=λF0 H0 F H Y M P Q e w q=>
 ha F0 H0 F H Y M _ _ e w λx v F1 H1 w1 x1 r1=>hb F0 H0 F1 H1 Y M _ _ (e.on x1) w1 λy u F2 H2 w2 x2 r2=>by
  have x12:=x1.trans x2
  unfold Yix at w2
  split at w2
  .obtain ⟨p,vs,rfl,h1,h2⟩:=r1.mono x2.ff
   obtain⟨p',vs',rfl,h1',h2'⟩:=r2
   obtain⟨n1,n2,hz,w2⟩:=w2
   have l1:=h2.length
   have l2:=h2'.length
   have m1:vs≠[]:=λz=>n1 (List.length_eq_zero_iff.mp (by rw[l1,z];rfl))
   have m2:vs'≠[]:=λz=>n2 (List.length_eq_zero_iff.mp (by rw[l2,z];rfl))
   exact⟨p,p',vs,vs',rfl,rfl,x2.fh.seqT h1,x2.fh.seqT h1',m1,m2,Xdp (by omega),λl H' l0 sm lq=>q _ _ _ H' w2 (x12.trans (Ext.new x2.fh l0 sm lq)) ⟨l,vs++vs',rfl,.inl (.inl Xa3),(h2.append h2').mono (Xbi.upd' (x2.fh.free l0))⟩⟩
  .exact w2.elim
def eD (xs ys:List D)(j:Nat):Bool:=match xs[j]?,ys[j]? with
 |some x,some y=>D.eqb x y
 |_,_=>true
theorem Xfz:∀(xs ys:List D),D.eqbs xs ys=((List.range (min xs.length ys.length)).all (eD xs ys) && xs.length==ys.length)
 | [],[]=>by simp[D.eqbs]
 | [],_::_=>by simp[D.eqbs]
 |_::_,[]=>by simp[D.eqbs]
 |x :: xs,y::ys=>by
  have ih:=Xfz xs ys
  simp only[D.eqbs,length_cons]
  rw[show min (xs.length+1) (ys.length+1)=min xs.length ys.length+1 by omega,List.range_succ_eq_map,all_cons,List.all_map,ih]
  have e0:eD (x::xs) (y::ys) 0=D.eqb x y:=rfl
  have e1:(eD (x::xs) (y::ys)∘Nat.succ)=eD xs ys:=by
   funext j
   simp[eD,Function.comp]
  rw[e0,e1,Bool.and_assoc]
  congr 2
  simp
theorem Xz5 {pins:List (Addr×Obj)}{Y:St}{H:Hp}{s:Shared}(I:Inv X pins Y H s):∀(n:Nat) {x y:D} {v:V},x.fit n=true->y.fit n=true->Rep X.K H x v->Rep X.K H y v->D.eqb x y=true:=by
 have items:∀(n:Nat),(∀{x y:D} {v:V},x.fit n=true->y.fit n=true->Rep X.K H x v->Rep X.K H y v->D.eqb x y=true)->∀{xs ys:List D} {vs:List V},xs.all (D.fit n)=true->ys.all (D.fit n)=true->Xb6 X.K H xs vs->Xb6 X.K H ys vs->D.eqbs xs ys=true:=by
  intro n ih xs
  induction xs with
  |nil=>
   intro ys vs _ _ r1 r2
   cases r1
   cases ys with
   |nil=>rfl
   |cons y ys=>obtain⟨v,r,e,_⟩:=r2;cases e
  |cons x xs ihx=>
   intro ys vs f1 f2 r1 r2
   obtain⟨v,r,rfl,h1,h2⟩:=r1
   cases ys with
   |nil=>cases r2
   |cons y ys=>
    obtain⟨v',r',e,h3,h4⟩:=r2
    cases e
    rw[all_cons,and_eq_true]at f1 f2
    simp only[D.eqbs,ih f1.1 f2.1 h1 h3,ihx f1.2 f2.2 h2 h4,Bool.and_self]
 have tl:∀{a:Addr} {xs ys:List V},SqT X.K H a xs->SqL X.K H a ys->False:=λ{a xs ys} h1 h2=>by
  obtain⟨_,_,p1,_⟩:=I.tuple h1
  obtain⟨_,_,p2,_⟩:=I.list h2
  obtain⟨o,e1,c1,_⟩:=p1
  obtain⟨o',e2,c2,_⟩:=p2.isList
  rw[e1]at e2;cases e2
  rw[c1]at c2;simp at c2
 intro n
 induction n with
 |zero=>
  intro x y v fx fy rx ry
  cases x<;>cases y<;>simp[D.fit]at fx fy<;>simp[D.eqb]
  all_goals first
   | (have z:=(show v=_ from rx).symm.trans (show v=_ from ry);first | (injection z) | (cases z))
   |skip
 |succ n ih=>
  intro x y v fx fy rx ry
  cases x<;>cases y
  case tup.tup xs ys=>
   obtain⟨a,vs,rfl,h1,h2⟩:=rx
   obtain⟨b,us,e,h3,h4⟩:=ry
   cases e
   cases I.tuple_inj h1 h3
   simp only[D.eqb]
   exact items n ih (by simpa only[D.fit] using fx) (by simpa only[D.fit] using fy) h2 h4
  case lst.lst xs ys=>
   obtain⟨a,vs,rfl,h1,h2⟩:=rx
   obtain⟨b,us,e,h3,h4⟩:=ry
   cases e
   cases I.list_inj h1 h3
   simp only[D.eqb]
   exact items n ih (by simpa only[D.fit] using fx) (by simpa only[D.fit] using fy) h2 h4
  case tup.lst xs ys=>
   obtain⟨a,vs,rfl,h1,h2⟩:=rx
   obtain⟨b,us,e,h3,h4⟩:=ry
   cases e
   exact (tl h1 h3).elim
  case lst.tup xs ys=>
   obtain⟨a,vs,rfl,h1,h2⟩:=rx
   obtain⟨b,us,e,h3,h4⟩:=ry
   cases e
   exact (tl h3 h1).elim
  all_goals first
   | (simp[D.fit]at fx;done)
   | (simp[D.fit]at fy;done)
   | (have z:=(show v=_ from rx).symm.trans (show v=_ from ry);first | (cases z;done) | (injection z with z;simp[D.eqb,z];done) | (simp[D.eqb];done))
   | (obtain⟨a,vs,e,_⟩:=rx;have z:=e.symm.trans (show v=_ from ry);cases z;done)
   | (obtain⟨a,vs,e,_⟩:=ry;have z:=(show v=_ from rx).symm.trans e;cases z;done)
theorem Xwz {pins:List (Addr×Obj)}{Y:St}{H:Hp}{s:Shared}(I:Inv X pins Y H s):∀(n:Nat) {A:Around} {x y:D} {v u:V} {a b:Value},A.units+n<cLine->x.fit n=true->y.fit n=true->Rep X.K H x v->Rep X.K H y u->Xd3 v a->Xd3 u b->SeqAt.EqAt A s a b (D.eqb x y):=by
 intro n
 induction n with
 |zero=>
  intro A x y v u a b hu fx fy rx ry ra rb
  by_cases hbl:(∃c,x = .bl c)∨∃c,y = .bl c
  .cases x<;>cases y<;>first | (simp[D.fit]at fx;done) | (simp[D.fit]at fy;done) | (rcases hbl with⟨c,z⟩ | ⟨c,z⟩<;>cases z;done) |skip
   case bl.bl=>cases (show v=_ from rx);cases (show u=_ from ry);cases ra;cases rb;simp only[D.eqb];exact SeqAt.EqAt.bool_bool _ _
   case bl.int=>cases (show v=_ from rx);cases (show u=_ from ry);cases ra;obtain⟨t,rfl⟩:=rb;simp only[D.eqb];rw[<- show ∀i j:Int,(i==j)=decide (i=j) from λi j=>by rw[Bool.eq_iff_iff];simp];exact SeqAt.EqAt.bool_int _ _ _
   case int.bl=>cases (show v=_ from rx);cases (show u=_ from ry);cases rb;obtain⟨t,rfl⟩:=ra;simp only[D.eqb];rw[<- show ∀i j:Int,(i==j)=decide (i=j) from λi j=>by rw[Bool.eq_iff_iff];simp];exact SeqAt.EqAt.int_bool _ _ _
   case bl.non=>cases (show v=_ from rx);cases (show u=_ from ry);cases ra;cases rb;exact SeqAt.EqAt.bool_none _
   case non.bl=>cases (show v=_ from rx);cases (show u=_ from ry);cases ra;cases rb;exact SeqAt.EqAt.none_bool _
   case bl.str=>cases (show v=_ from rx);cases (show u=_ from ry);cases ra;obtain⟨t,rfl⟩:=rb;exact SeqAt.EqAt.bool_str _ _ _
   case str.bl=>cases (show v=_ from rx);cases (show u=_ from ry);cases rb;obtain⟨t,rfl⟩:=ra;exact SeqAt.EqAt.str_bool _ _ _
  have key:Yei v=true/\Yei u=true/\eqV v u=D.eqb x y:=by
   cases x<;>cases y<;>first | (simp[D.fit]at fx;done) | (simp[D.fit]at fy;done) | (exact absurd (.inl ⟨_,rfl⟩) hbl) | (exact absurd (.inr ⟨_,rfl⟩) hbl) |skip
   all_goals
    have e1:v=_:=rx
    have e2:u=_:=ry
    subst e1 e2
    refine⟨rfl,rfl,?_⟩
    first |rfl | (simp[eqV,D.eqb];done) | (simp only[eqV,D.eqb];exact Bool.beq_eq_decide_eq _ _)
  rw[<- key.2.2]
  exact Ylm ra rb key.1 key.2.1
 |succ n ih=>
  intro A x y v u a b hu fx fy rx ry ra rb
  have hu0:A.units<cLine:=by omega
  have hu1:A.in1.units+n<cLine:=by rw[show A.in1.units=A.units+1 from rfl];omega
  cases x<;>cases y
  case tup.tup xs ys=>
   obtain⟨p,vs,rfl,h1,h2⟩:=rx
   obtain⟨q,us,rfl,h3,h4⟩:=ry
   cases ra
   cases rb
   by_cases hpq:p=q
   .subst hpq
    have:=Xz5 I (n+1) fx fy (v:=.ref p) ⟨p,vs,rfl,h1,h2⟩ ⟨p,us,rfl,h3,h4⟩
    rw[this]
    exact SeqAt.EqAt.same _
   .obtain ⟨its,w1,p1,_⟩:=I.tuple h1
    obtain⟨its2,w2,p2,_⟩:=I.tuple h3
    have l1:=h2.length
    have l2:=h4.length
    have m1:=w1.length
    have m2:=w2.length
    simp only[D.fit]at fx fy
    have:=SeqAt.RcAt.tuples (e:=eD xs ys) p1 p2 hu0 (λj j1 j2=>by
     obtain⟨z1,e1,r1⟩:=w1.at j1
     obtain⟨z2,e2,r2⟩:=w2.at j2
     obtain⟨d1,g1,k1⟩:=h2.get' e1
     obtain⟨d2,g2,k2⟩:=h4.get' e2
     have e:eD xs ys j=D.eqb d1 d2:=by unfold eD;rw[g1,g2]
     rw[e]
     exact ih hu1 (all_eq_true.mp fx d1 (mem_of_getElem? g1)) (all_eq_true.mp fy d2 (mem_of_getElem? g2)) k1 k2 r1 r2)
    rw[show its.toArray.size=xs.length by rw[size_toArray];omega,show its2.toArray.size=ys.length by rw[size_toArray];omega,<- Xfz]at this
    simp only[D.eqb]
    exact SeqAt.EqAt.of_refs hpq this
  case lst.lst xs ys=>
   obtain⟨p,vs,rfl,h1,h2⟩:=rx
   obtain⟨q,us,rfl,h3,h4⟩:=ry
   cases ra
   cases rb
   by_cases hpq:p=q
   .subst hpq
    have:=Xz5 I (n+1) fx fy (v:=.ref p) ⟨p,vs,rfl,h1,h2⟩ ⟨p,us,rfl,h3,h4⟩
    rw[this]
    exact SeqAt.EqAt.same _
   .obtain ⟨its,w1,p1,_⟩:=I.list h1
    obtain⟨its2,w2,p2,_⟩:=I.list h3
    have l1:=h2.length
    have l2:=h4.length
    have m1:=w1.length
    have m2:=w2.length
    simp only[D.fit]at fx fy
    simp only[D.eqb]
    refine SeqAt.EqAt.of_refs hpq ?_
    by_cases hl:xs.length=ys.length
    .have:=SeqAt.RcAt.lists (e:=eD xs ys) p1.isList p2.isList (by rw[size_toArray,size_toArray];omega) hu0 (λj j1 j2=>by
      obtain⟨z1,e1,r1⟩:=w1.at j1
      obtain⟨z2,e2,r2⟩:=w2.at j2
      obtain⟨d1,g1,k1⟩:=h2.get' e1
      obtain⟨d2,g2,k2⟩:=h4.get' e2
      have e:eD xs ys j=D.eqb d1 d2:=by unfold eD;rw[g1,g2]
      rw[e]
      exact ih hu1 (all_eq_true.mp fx d1 (mem_of_getElem? g1)) (all_eq_true.mp fy d2 (mem_of_getElem? g2)) k1 k2 r1 r2)
     rw[Xfz,<- hl,min_self,beq_self_eq_true,Bool.and_true]
     rw[show its.toArray.size=xs.length by rw[size_toArray];omega]at this
     exact this
    .rw [Xfz,show (xs.length==ys.length)=false by simpa using hl,Bool.and_false]
     exact SeqAt.RcAt.lists_lengths p1.isList p2.isList (by rw[size_toArray,size_toArray];simp only[bne_iff_ne,ne_eq];omega) hu0
  case tup.lst xs ys=>
   obtain⟨p,vs,rfl,h1,h2⟩:=rx
   obtain⟨q,us,rfl,h3,h4⟩:=ry
   cases ra
   cases rb
   obtain⟨its,w1,p1,_⟩:=I.tuple h1
   obtain⟨its2,w2,p2,_⟩:=I.list h3
   exact SeqAt.EqAt.tuple_list p1 p2.isList hu0
  case lst.tup xs ys=>
   obtain⟨p,vs,rfl,h1,h2⟩:=rx
   obtain⟨q,us,rfl,h3,h4⟩:=ry
   cases ra
   cases rb
   obtain⟨its,w1,p1,_⟩:=I.list h1
   obtain⟨its2,w2,p2,_⟩:=I.tuple h3
   exact SeqAt.EqAt.list_tuple p1.isList p2 hu0
  case bl.tup=>obtain⟨p,vs,rfl,h1,_⟩:=ry;cases rb;cases (show v=_ from rx);cases ra;obtain⟨its,w1,p1,_⟩:=I.tuple h1;exact SeqAt.EqAt.bool_tuple _ p1 hu0
  case bl.lst=>obtain⟨p,vs,rfl,h1,_⟩:=ry;cases rb;cases (show v=_ from rx);cases ra;obtain⟨its,w1,p1,_⟩:=I.list h1;exact SeqAt.EqAt.bool_list _ p1.isList hu0
  case ty.tup=>simp[D.fit]at fx
  case ty.lst=>simp[D.fit]at fx
  case fn.tup=>simp[D.fit]at fx
  case fn.lst=>simp[D.fit]at fx
  case dic.tup=>simp[D.fit]at fx
  case dic.lst=>simp[D.fit]at fx
  case exc.tup=>simp[D.fit]at fx
  case obj.tup=>simp[D.fit]at fx
  case obj.lst=>simp[D.fit]at fx
  case tup.obj=>simp[D.fit]at fy
  case lst.obj=>simp[D.fit]at fy
  case exc.lst=>simp[D.fit]at fx
  case tup.dic=>simp[D.fit]at fy
  case lst.dic=>simp[D.fit]at fy
  case tup.exc=>simp[D.fit]at fy
  case lst.exc=>simp[D.fit]at fy
  case tup.bl=>obtain⟨p,vs,rfl,h1,_⟩:=rx;cases ra;cases (show u=_ from ry);cases rb;obtain⟨its,w1,p1,_⟩:=I.tuple h1;exact SeqAt.EqAt.tuple_bool _ p1 hu0
  case lst.bl=>obtain⟨p,vs,rfl,h1,_⟩:=rx;cases ra;cases (show u=_ from ry);cases rb;obtain⟨its,w1,p1,_⟩:=I.list h1;exact SeqAt.EqAt.list_bool _ p1.isList hu0
  case tup.ty=>simp[D.fit]at fy
  case lst.ty=>simp[D.fit]at fy
  case tup.fn=>simp[D.fit]at fy
  case lst.fn=>simp[D.fit]at fy
  case tup.int=>obtain⟨p,vs,rfl,h1,_⟩:=rx;cases ra;cases (show u=_ from ry);obtain⟨t,rfl⟩:=rb;obtain⟨its,w1,p1,_⟩:=I.tuple h1;exact SeqAt.EqAt.tuple_int _ _ p1 hu0
  case tup.non=>obtain⟨p,vs,rfl,h1,_⟩:=rx;cases ra;cases (show u=_ from ry);cases rb;obtain⟨its,w1,p1,_⟩:=I.tuple h1;exact SeqAt.EqAt.tuple_none p1 hu0
  case tup.str=>obtain⟨p,vs,rfl,h1,_⟩:=rx;cases ra;cases (show u=_ from ry);obtain⟨t,rfl⟩:=rb;obtain⟨its,w1,p1,_⟩:=I.tuple h1;exact SeqAt.EqAt.tuple_str _ _ p1 hu0
  case lst.int=>obtain⟨p,vs,rfl,h1,_⟩:=rx;cases ra;cases (show u=_ from ry);obtain⟨t,rfl⟩:=rb;obtain⟨its,w1,p1,_⟩:=I.list h1;exact SeqAt.EqAt.list_int _ _ p1.isList hu0
  case lst.non=>obtain⟨p,vs,rfl,h1,_⟩:=rx;cases ra;cases (show u=_ from ry);cases rb;obtain⟨its,w1,p1,_⟩:=I.list h1;exact SeqAt.EqAt.list_none p1.isList hu0
  case lst.str=>obtain⟨p,vs,rfl,h1,_⟩:=rx;cases ra;cases (show u=_ from ry);obtain⟨t,rfl⟩:=rb;obtain⟨its,w1,p1,_⟩:=I.list h1;exact SeqAt.EqAt.list_str _ _ p1.isList hu0
  case int.tup=>obtain⟨p,vs,rfl,h1,_⟩:=ry;cases rb;cases (show v=_ from rx);obtain⟨t,rfl⟩:=ra;obtain⟨its,w1,p1,_⟩:=I.tuple h1;exact SeqAt.EqAt.int_tuple _ _ p1 hu0
  case non.tup=>obtain⟨p,vs,rfl,h1,_⟩:=ry;cases rb;cases (show v=_ from rx);cases ra;obtain⟨its,w1,p1,_⟩:=I.tuple h1;exact SeqAt.EqAt.none_tuple p1 hu0
  case str.tup=>obtain⟨p,vs,rfl,h1,_⟩:=ry;cases rb;cases (show v=_ from rx);obtain⟨t,rfl⟩:=ra;obtain⟨its,w1,p1,_⟩:=I.tuple h1;exact SeqAt.EqAt.str_tuple _ _ p1 hu0
  case int.lst=>obtain⟨p,vs,rfl,h1,_⟩:=ry;cases rb;cases (show v=_ from rx);obtain⟨t,rfl⟩:=ra;obtain⟨its,w1,p1,_⟩:=I.list h1;exact SeqAt.EqAt.int_list _ _ p1.isList hu0
  case non.lst=>obtain⟨p,vs,rfl,h1,_⟩:=ry;cases rb;cases (show v=_ from rx);cases ra;obtain⟨its,w1,p1,_⟩:=I.list h1;exact SeqAt.EqAt.none_list p1.isList hu0
  case str.lst=>obtain⟨p,vs,rfl,h1,_⟩:=ry;cases rb;cases (show v=_ from rx);obtain⟨t,rfl⟩:=ra;obtain⟨its,w1,p1,_⟩:=I.list h1;exact SeqAt.EqAt.str_list _ _ p1.isList hu0
  all_goals
   refine ih (by omega) ?_ ?_ rx ry ra rb
   .first |rfl | (simp[D.fit]at fx;done) | (simp[D.fit];done)
   .first |rfl | (simp[D.fit]at fy;done) | (simp[D.fit];done)
def Yoe (K:Frag):R2:=λv u H Q=>∃x y,x.same y=true/\x.fit 4=true/\y.fit 4=true/\Rep K H x v/\Rep K H y u/\Q (.bl (D.eqb x y)) H
def Yoc (K:Frag):R2:=λv u H Q=>∃x y,x.same y=true/\x.fit 4=true/\y.fit 4=true/\Rep K H x v/\Rep K H y u/\Q (.bl (!D.eqb x y)) H
theorem Yko (hu:X.A.units+64<cLine):OpR X (compareOp .Eq) (Yoe X.K):=by
 intro pins s Y H v u a b Q I ra rb h
 obtain⟨x,y,hs,fx,fy,rx,ry,q⟩:=h
 have hu0:X.A.units<cLine:=by omega
 have hu1:X.A.in1.units+3<cLine:=by rw[show X.A.in1.units=X.A.units+1 from rfl];omega
 cases x<;>cases y<;>first | (simp[D.same]at hs;done) |skip
 case tup.tup xs ys=>
  obtain⟨p,vs,rfl,h1,h2⟩:=rx
  obtain⟨p',us,rfl,h3,h4⟩:=ry
  cases ra
  cases rb
  obtain⟨its,w1,p1,_⟩:=I.tuple h1
  obtain⟨its2,w2,p2,_⟩:=I.tuple h3
  have l1:=h2.length
  have l2:=h4.length
  have m1:=w1.length
  have m2:=w2.length
  simp only[D.fit]at fx fy
  refine SeqAt.RcAt.tuples (e:=eD xs ys) p1 p2 hu0 (λj j1 j2=>by
   obtain⟨z1,e1,r1⟩:=w1.at j1
   obtain⟨z2,e2,r2⟩:=w2.at j2
   obtain⟨d1,g1,k1⟩:=h2.get' e1
   obtain⟨d2,g2,k2⟩:=h4.get' e2
   have e:eD xs ys j=D.eqb d1 d2:=by unfold eD;rw[g1,g2]
   rw[e]
   exact Xwz I 3 hu1 (all_eq_true.mp fx d1 (mem_of_getElem? g1)) (all_eq_true.mp fy d2 (mem_of_getElem? g2)) k1 k2 r1 r2) _ _ _ _ ?_
  rw[show its.toArray.size=xs.length by rw[size_toArray];omega,show its2.toArray.size=ys.length by rw[size_toArray];omega,<- Xfz]
  simp only[D.eqb]at q
  exact⟨.bl _,H,I,rfl,q⟩
 case lst.lst xs ys=>
  obtain⟨p,vs,rfl,h1,h2⟩:=rx
  obtain⟨p',us,rfl,h3,h4⟩:=ry
  cases ra
  cases rb
  obtain⟨its,w1,p1,_⟩:=I.list h1
  obtain⟨its2,w2,p2,_⟩:=I.list h3
  have l1:=h2.length
  have l2:=h4.length
  have m1:=w1.length
  have m2:=w2.length
  simp only[D.fit]at fx fy
  simp only[D.eqb]at q
  rw[Xfz]at q
  by_cases hl:xs.length=ys.length
  .refine SeqAt.RcAt.lists (e:=eD xs ys) p1.isList p2.isList (by rw[size_toArray,size_toArray];omega) hu0 (λj j1 j2=>by
    obtain⟨z1,e1,r1⟩:=w1.at j1
    obtain⟨z2,e2,r2⟩:=w2.at j2
    obtain⟨d1,g1,k1⟩:=h2.get' e1
    obtain⟨d2,g2,k2⟩:=h4.get' e2
    have e:eD xs ys j=D.eqb d1 d2:=by unfold eD;rw[g1,g2]
    rw[e]
    exact Xwz I 3 hu1 (all_eq_true.mp fx d1 (mem_of_getElem? g1)) (all_eq_true.mp fy d2 (mem_of_getElem? g2)) k1 k2 r1 r2) _ _ _ _ ?_
   rw[<- hl,min_self,beq_self_eq_true,Bool.and_true]at q
   rw[show its.toArray.size=xs.length by rw[size_toArray];omega]
   exact⟨.bl _,H,I,rfl,q⟩
  .rw [show (xs.length==ys.length)=false by simpa using hl,Bool.and_false]at q
   exact SeqAt.RcAt.lists_lengths p1.isList p2.isList (by rw[size_toArray,size_toArray];simp only[bne_iff_ne,ne_eq];omega) hu0 _ _ _ _ ⟨.bl _,H,I,rfl,q⟩
theorem Yap (hu:X.A.units+64<cLine):OpR X (compareOp .NotEq) (Yoc X.K):=by
 intro pins s Y H v u a b Q I ra rb h
 obtain⟨x,y,hs,fx,fy,rx,ry,q⟩:=h
 have hu0:X.A.units<cLine:=by omega
 have hu1:X.A.in1.units+3<cLine:=by rw[show X.A.in1.units=X.A.units+1 from rfl];omega
 cases x<;>cases y<;>first | (simp[D.same]at hs;done) |skip
 case tup.tup xs ys=>
  obtain⟨p,vs,rfl,h1,h2⟩:=rx
  obtain⟨p',us,rfl,h3,h4⟩:=ry
  cases ra
  cases rb
  obtain⟨its,w1,p1,_⟩:=I.tuple h1
  obtain⟨its2,w2,p2,_⟩:=I.tuple h3
  have l1:=h2.length
  have l2:=h4.length
  have m1:=w1.length
  have m2:=w2.length
  simp only[D.fit]at fx fy
  refine SeqAt.RcNeAt.tuples (e:=eD xs ys) p1 p2 hu0 (λj j1 j2=>by
   obtain⟨z1,e1,r1⟩:=w1.at j1
   obtain⟨z2,e2,r2⟩:=w2.at j2
   obtain⟨d1,g1,k1⟩:=h2.get' e1
   obtain⟨d2,g2,k2⟩:=h4.get' e2
   have e:eD xs ys j=D.eqb d1 d2:=by unfold eD;rw[g1,g2]
   rw[e]
   exact Xwz I 3 hu1 (all_eq_true.mp fx d1 (mem_of_getElem? g1)) (all_eq_true.mp fy d2 (mem_of_getElem? g2)) k1 k2 r1 r2) _ _ _ _ ?_
  rw[show its.toArray.size=xs.length by rw[size_toArray];omega,show its2.toArray.size=ys.length by rw[size_toArray];omega,<- Xfz]
  simp only[D.eqb]at q
  exact⟨.bl _,H,I,rfl,q⟩
 case lst.lst xs ys=>
  obtain⟨p,vs,rfl,h1,h2⟩:=rx
  obtain⟨p',us,rfl,h3,h4⟩:=ry
  cases ra
  cases rb
  obtain⟨its,w1,p1,_⟩:=I.list h1
  obtain⟨its2,w2,p2,_⟩:=I.list h3
  have l1:=h2.length
  have l2:=h4.length
  have m1:=w1.length
  have m2:=w2.length
  simp only[D.fit]at fx fy
  simp only[D.eqb]at q
  rw[Xfz]at q
  by_cases hl:xs.length=ys.length
  .refine SeqAt.RcNeAt.lists (e:=eD xs ys) p1.isList p2.isList (by rw[size_toArray,size_toArray];omega) hu0 (λj j1 j2=>by
    obtain⟨z1,e1,r1⟩:=w1.at j1
    obtain⟨z2,e2,r2⟩:=w2.at j2
    obtain⟨d1,g1,k1⟩:=h2.get' e1
    obtain⟨d2,g2,k2⟩:=h4.get' e2
    have e:eD xs ys j=D.eqb d1 d2:=by unfold eD;rw[g1,g2]
    rw[e]
    exact Xwz I 3 hu1 (all_eq_true.mp fx d1 (mem_of_getElem? g1)) (all_eq_true.mp fy d2 (mem_of_getElem? g2)) k1 k2 r1 r2) _ _ _ _ ?_
   rw[<- hl,min_self,beq_self_eq_true,Bool.and_true]at q
   rw[show its.toArray.size=xs.length by rw[size_toArray];omega]
   exact⟨.bl _,H,I,rfl,q⟩
  .rw [show (xs.length==ys.length)=false by simpa using hl,Bool.and_false]at q
   exact SeqAt.RcNeAt.lists_lengths p1.isList p2.isList (by rw[size_toArray,size_toArray];simp only[bne_iff_ne,ne_eq];omega) hu0 _ _ _ _ ⟨.bl _,H,I,rfl,q⟩
theorem Yku:OpS K (Yoe K) Yop:=λF H x y v u P Q s rx ry w q=>by
 obtain⟨hs,fx,fy,w⟩:=w
 exact⟨x,y,hs,fx,fy,rx,ry,q _ _ F H w (Ext.refl s) rfl⟩
theorem Ya3:OpS K (Yoc K) Yoh:=λF H x y v u P Q s rx ry w q=>by
 obtain⟨hs,fx,fy,w⟩:=w
 exact⟨x,y,hs,fx,fy,rx,ry,q _ _ F H w (Ext.refl s) rfl⟩
end
structure BltV (mg:Str->Option Value):Prop extends Blt mg where
 abs:mg "abs"=none
 any:mg "any"=none
 sum:mg "sum"=none
 sorted:mg "sorted"=none
 set:mg "set"=none
 enumerate:mg "enumerate"=none
 dict:mg "dict"=none
 str:mg "str"=none
 divmod:mg "divmod"=none
 ord:mg "ord"=none
abbrev DTb:=List (Str×DSp)
def Yb1 (i n:Nat)(tb:DTb)(As:DA):DO:=λM P=>match M[i]? with
 |some (some (.own (.fz (.fn x))))=>∃sp,(x,sp)∈tb/\As M λds=>ds.length=n/\sp ds P
 |_=>False
def Xvc (i n:Nat)(tb:DTb)(As:DA):DO:=λM P=>match M[i]? with
 |some (some (.own (.fz (.fn x))))=>∃sp,(x,sp)∈tb/\As M λds=>ds.length=n/\sp ds λr=>r.lf=true/\P r
 |_=>False
abbrev DIO:=List OV->List D->(List OV->Prop)->Prop
def Xug (i n:Nat)(sp:DIO)(As:DA):DS:=λDe M=>match M[i]? with
 |some (some (.own (.nl ts)))=>As M λds=>ds.length+1=n/\sp ts ds λts'=>De.nx (M.set i (some (.own (.nl ts'))))
 |_=>False
def Xjl (N:List Str)(a:Addr)(ts:List OV)(ds:List D):Dst:=some (.own (.rt a ts))::(ds.map (λd=>some (.own (.fz d)))++List.replicate (N.length-(ds.length+1)) none)
def Ymt (i:Nat)(T:DS):DS:=λDe M=>match M[i]? with
 |some (some (.own (.rt a ts)))=>T {De with nx:=λM'=>match M'[i]? with
   |some (some (.own (.nl ts')))=>De.nx (M'.set i (some (.own (.rt a ts'))))
   |_=>False} (M.set i (some (.own (.nl ts))))
 |_=>False
def gB (i:Nat):D->Dst->(Dst->Prop)->Prop:=λd M P=>P (M.set i (some (.bw d)))
def Yf7 (El:DE)(ix:List (Option Nat))(Eo:DO):DO:=λM P=>El M λd=>match d with
 | .lst ds=>Xme (gB 0) Eo ds (Yiz ix M) P
 |_=>False
section
variable {K:Frag}{X:Cx}{mg:Str->Option Value}
def Xtz (K:Frag)(mg:Str->Option Value)(x:Str):Prop:=∃f,nsIn K mainGlobals x=some (some (.ref f))/\mg x=some (.ref f)
def tFn (K:Frag)(x:Str):TE:=λY H Q=>∃f,nsIn K mainGlobals x=some (some (.ref f))/\Q (.ref f) H
theorem Yds {x:Str}{pos:Pos}(hg:Gl X x)(h:Xtz X.K X.mg x)(hd:(x==("__debug__":Str))=false:=by decide):PE X (.Name x pos) (tFn X.K x):=by
 intro pins s Y H Q I ⟨f,e,q⟩
 obtain⟨f',e1,e2⟩:=h
 rw[e]at e1
 cases e1
 exact Xul (v:=.ref f) hg e2 rfl hd pins s Y H Q I q
theorem Ydd {x:Str}(h:Xtz K mg x):Xey K (tFn K x) (dC (.fn x)):=λF0 H0 F H Y M P Q e w q=>by
 obtain⟨f,e1,_⟩:=h
 exact⟨f,e1,q _ _ F H w (Ext.refl e.ext.fh) ⟨f,rfl,e1⟩⟩
def Xyz (mg:Str->Option Value)(i:Nat)(tb:List (Str×Sp))(t:TA):TE:=λY H Q=>∃x sp f,(x,sp)∈tb/\mg x=some (.ref f)/\Y[i]?=some (some (.ref f))/\t Y H λvs H1=>sp vs H1 Q E0
theorem Yal {y:Str}{i k:Nat}{tb:List (Str×Sp)}{e:Expr}{es:List Expr}{t:TA}{p pos:Pos}(hn:PE X (.Name y p) (Xm7 i))(C:∀x sp,(x,sp)∈tb->∃ps,Cal X.prog X.w X.K X.mg X.base x k ps sp)(hr:Room k X.A)(ha:PA X (e::es) t)
  (he:starEach (e::es) X.env=(false,eval e X.env)::starEach es X.env:=by rfl) (hpl:(backTo pos (starEach es X.env)).any (·.1)=false:=by rfl):
  PE X (.Call (.Name y p) (e::es) [] pos) (Xyz X.mg i tb t):=by
 intro pins s Y H Q I ⟨x,sp,f,hm,hmg,hs,h⟩
 obtain⟨ps,⟨f',fd,F,hm',hk,hb⟩⟩:=C x sp hm
 rw[hmg]at hm'
 cases hm'
 refine wpAny_Call_Name_kw (thn (hn pins s Y H (λv H1=>v = .ref f/\H1=H) I ⟨_,hs,rfl,rfl⟩) λu s1 ⟨v,H1,I1,r1,e1,e2⟩=>?_)
 subst e1 e2
 cases r1
 refine callWith_K (h₀:=X.base) I1.ok.mod.kin hk (thn (ha pos pins s1 Y H1 _ I1 h) λus s2 ⟨vs,H2,I2,r,q⟩=>⟨I2.kIn,?_⟩) he hpl
 exact Xv5 F hr hb .nil Xxu I2 r (by rw[append_nil];exact q)
theorem Cal.mono {P:Program}{w:World}{base:Heap}{x:Str}{j k:Nat}{ps:List Str}{sp:Sp}(C:Cal P w K mg base x j ps sp)(h:j<=k):Cal P w K mg base x k ps sp:=by
 obtain⟨f,fd,F,a,b,c⟩:=C.ex
 exact⟨f,fd,F.mono h,a,b,c⟩
def tbV (K:Frag)(n:Nat)(tb:DTb):List (Str×Sp):=tb.map λp=>(p.1,spV K n p.2)
theorem Xyw {P:Program}{w:World}{base:Heap}{n k:Nat}{tb:DTb}(h:∀p∈tb,∃ps,Cal P w K mg base p.1 k ps (spV K n p.2)):∀x sp,(x,sp)∈tbV K n tb->∃ps,Cal P w K mg base x k ps sp:=λx sp hm=>by
 obtain⟨p,hp,e⟩:=mem_map.mp hm
 cases e
 exact h p hp
theorem Yc7 {i n:Nat}{tb:DTb}{a:TA}{As:DA}(hN:∀p∈tb,Xtz K mg p.1)(ha:Xiy K a As):Xj5 K (Xyz mg i (tbV K n tb) a) (Yb1 i n tb As):=λF0 H0 F H Y M P Q e w q=>by
 unfold Yb1 at w
 split at w
 .rename_i x hx
  obtain⟨A,e⟩:=e
  obtain⟨v,hv,_,f,rfl,hf⟩:=e.own i _ hx
  obtain⟨sp,hm,w⟩:=w
  obtain⟨f',n1,n2⟩:=hN _ hm
  rw[hf]at n1
  cases n1
  refine⟨x,spV K n sp,f,mem_map.mpr ⟨_,hm,rfl⟩,n2,hv,?_⟩
  refine ha F0 H0 F H Y M _ _ ⟨A,e⟩ w λds vs F1 H1 w1 x1 r1=>?_
  exact⟨by rw[<- r1.length];exact w1.1,F1,ds,P,x1.fh,r1,w1.2,λr v F' H' p x' r'=>q r v F' H' p (x1.trans x') (r'.old x1.hh)⟩
 .exact w.elim
theorem Xzv {i n:Nat}{tb:DTb}{a:TA}{As:DA}(hN:∀p∈tb,Xtz K mg p.1)(ha:Xos K a As):Xj5 K (Xyz mg i (tbV K n tb) a) (Xvc i n tb As):=λF0 H0 F H Y M P Q e w q=>by
 unfold Xvc at w
 split at w
 .rename_i x hx
  obtain⟨A,e⟩:=e
  obtain⟨v,hv,_,f,rfl,hf⟩:=e.own i _ hx
  obtain⟨sp,hm,w⟩:=w
  obtain⟨f',n1,n2⟩:=hN _ hm
  rw[hf]at n1
  cases n1
  refine⟨x,spV K n sp,f,mem_map.mpr ⟨_,hm,rfl⟩,n2,hv,?_⟩
  refine ha F0 H0 F H Y M _ _ ⟨A,e⟩ w λds vs F1 H1 w1 x1 r1=>?_
  refine⟨by rw[<- r1.length];exact w1.1,H1,ds,_,Xbi.refl _,r1,w1.2,λr v F' H' p x' r'=>?_⟩
  have s1:Xbi F1 F':=x1.fh.trans x'.ff
  have x2:=Xfy s1
  obtain⟨A,a1,a2,a3⟩:=r'
  refine q r v (Xu8 F1 F') H' p.2 (x1.trans ⟨x2.ff,x'.hh,x2.fh.trans x'.fh,λb o z1 z2 z3=>?_⟩) ⟨A,a1.lf s1 p.1,a2,λb hb=>⟨x1.hh.free (a3 b hb).1,x2.fh.free (a3 b hb).2⟩⟩
  exact x2.no b o z1 (x'.ff _ _ z2) z3
 .exact w.elim
def Ycs (K:Frag)(n:Nat)(sp:DIO):Sp:=spL n λvs H Q=>∃F a ts vs0 B Xht ds P,vs=V.ref a::Xht/\Xbi F H/\H a=some (.lst vs0)/\Xa6 K F H ts vs0 B/\(a::B).Nodup/\(∀b∈a::B,F b=none)/\Xb6 K F ds Xht/\sp ts ds P/\
 ∀ts' F' H' vs' B',P ts'->Xbi F F'->Xbi F' H'->(∀b o,b∉a::B->H b=some o->H' b=some o)->(∀b o,F b=none->H b=some o->imm o=false->b∉a::B->F' b=none)->H' a=some (.lst vs')->Xa6 K F' H' ts' vs' B'->(a::B').Nodup->
  (∀b∈a::B',F' b=none/\(b∈a::B∨H b=none))->Q .non H'
theorem Xkj {i n:Nat}{sp:DIO}{a:TA}{As:DA}(ha:Xiy K a As):Xfn K (Xov (Xt2 (Ycs K n sp) [] E0 (Xla (Xm7 i) a))) (Xug i n sp As):=λF0 H0 F H Y M De En e l w=>by
 obtain⟨A,e⟩:=e
 unfold Xug at w
 split at w
 .rename_i ts hs
  obtain⟨v,hv,p,vs,B,rfl,eA,hp,hB⟩:=e.own i _ hs
  refine⟨_,hv,?_⟩
  refine ha F0 H0 F H Y M _ _ ⟨A,e⟩ w λds us F1 H1 w1 x1 r1=>?_
  show Ycs K n sp ((V.ref p::us)++[]) H1 (λ_ H2=>En.nx Y H2) E0
  rw[append_nil]
  have e1:=e.on x1
  have hnd:=e.nod i
  rw[eA]at hnd
  have hlt:i<M.length:=(List.getElem?_eq_some_iff.mp hs).1
  refine⟨by rw[length_cons,<- r1.length];exact w1.1,F1,p,ts,vs,B,us,ds,_,rfl,x1.fh,x1.hh _ _ hp,hB.frame x1.ff λb _ xs z=>x1.hh _ _ z,hnd,λb hb=>(e1.new i b (by rw[eA];exact hb)).1,r1,w1.2,?_⟩
  intro ts' F' H' vs' B' pt sF sH keep nofz hp' hB' nd' nw'
  refine l.nx F' H' Y _ ⟨λj=>if j=i then p::B' else A j,?_⟩ pt
  refine⟨by simp[e.len],⟨e1.ext.ff.trans sF,λb o h=>?_,sH,λb o h1 h2 h3=>?_⟩,λj t hj=>?_,λj d hj=>?_,λj=>?_,λj k b hjk h1 h2=>?_,λj b hb=>?_⟩
  .exact keep b o (λz=>by rw[(e1.new i b (by rw[eA];exact z)).2.1]at h;cases h) (e1.ext.hh _ _ h)
  .exact nofz b o (e1.ext.no b o h1 h2 h3) (e1.ext.hh _ _ h2) h3 (λz=>by rw[(e1.new i b (by rw[eA];exact z)).2.1]at h2;cases h2)
  .try dsimp only
   by_cases z:j=i
   .subst z
    rw[if_pos rfl]
    rw[getElem?_set_self hlt]at hj
    cases hj
    exact⟨_,hv,p,vs',B',rfl,rfl,hp',hB'⟩
   .rw [if_neg z]
    rw[getElem?_set_ne (Ne.symm z)]at hj
    obtain⟨u,h1,h2⟩:=e1.own j t hj
    exact⟨u,h1,h2.frame sF λb hb xs q=>keep b _ (λy=>e.dis j i b z hb (by rw[eA];exact y)) q⟩
  .by_cases z:j=i
   .subst z
    rw[getElem?_set_self hlt]at hj
    cases hj
   .rw [getElem?_set_ne (Ne.symm z)]at hj
    exact e1.bw j d hj
  .try dsimp only
   split
   .exact nd'
   .exact e.nod j
  .try dsimp only at h1 h2
   have key:∀k,k≠i->b∈p::B'->b∈A k->False:=λk hk z1 z2=>by
    rcases (nw' b z1).2 with y |y
    .exact e.dis k i b hk z2 (by rw[eA];exact y)
    .obtain ⟨_,_,xs,q,_⟩:=e1.new k b z2
     rw[y]at q;cases q
   split at h1
   .split at h2
    .omega
    .rename_i z1 z2
     exact key k z2 h1 h2
   .split at h2
    .rename_i z1 z2
     exact key j z1 h2 h1
    .exact e.dis j k b hjk h1 h2
  .try dsimp only at hb
   split at hb
   .have hh:H0 b=none:=by
     rcases (nw' b hb).2 with y |y
     .exact (e1.new i b (by rw[eA];exact y)).2.1
     .exact e1.ext.hh.free y
    refine⟨(nw' b hb).1,hh,?_⟩
    rcases mem_cons.mp hb with y |y
    .rw [y];exact⟨_,hp',rfl⟩
    .exact hB'.isl b y
   .rename_i z
    obtain⟨h1,h2,xs,h3,himm⟩:=e1.new j b hb
    have hni:b∉p::B:=λy=>e.dis j i b z hb (by rw[eA];exact y)
    exact⟨nofz b _ h1 h3 himm hni,h2,xs,keep b _ hni h3,himm⟩
 .exact w.elim
theorem CalIO.of {P:Program}{w:World}{base:Heap}{x:Str}{st:Stmt}{f:Addr}{fd:FuncData}{N ps:List Str}{k n:Nat}{sp:DIO}(Df:DefAt K mg x st f fd)(S:FnScope N ps (Xaf st))
  (hb:∀(kV doc pm:Value) (an:Option Addr) (cdv ct:Value) (us:List Value),us.length=ps.length->bindArgs (fnOf x x (Xb9 st) (Xbn st) (Xaf st) .none kV doc pm an cdv ct) ⟨us,[]⟩=pure (ps.zip us)) (hn:n=ps.length)
  (hbody:∀(cdv:Value) (A:Around) (outer:List Env) (s:Shared) (H:Hp) (E:XK),Room k (A.deeper (envOfC x (Xaf st) s.heap.objs.size f cdv))->
   ∃t T,PSs (Xvd CX0 P w K mg base N x (Xaf st) f cdv A outer s H E).nox (Xbn st) t/\Xfn K t T/\∀(a:Addr) ts ds Pr,sp ts ds Pr->T {nx:=λM=>∃ts',M[0]?=some (some (.own (.rt a ts')))/\Pr ts',rt:=λ_=>False} (Xjl N a ts ds)):Cal P w K mg base x (k+1) ps (Ycs K n sp):=
 Cal.of Df S hb (λvs H Q E h=>by rw[<- hn];exact h.1) λcdv A outer s H vs Q E hr h=>by
  obtain⟨_,F,a,ts,vs0,B,Xht,ds,Pr,rfl,hs,ha,hB,hnd,hnf,hr',hsp,hq⟩:=h
  obtain⟨t,T,h1,h2,h3⟩:=hbody cdv A outer s H E hr
  have hl:=hr'.length
  have er : ER K F (λb=>if b∈a::B then none else H b) F H (Xe0 N (V.ref a::Xht)) (Xjl N a ts ds) (λj=>if j=0 then a::B else []):=by
   refine⟨by simp[Xe0,Xjl,hl],⟨Xbi.refl _,λb o z=>?_,hs,λ_ _ z _ _=>z⟩,λi t hi=>?_,λi d hi=>?_,λj=>?_,λj k b hjk y1 y2=>?_,λj b hb=>?_⟩
   .try dsimp only at z
    split at z
    .cases z
    .exact z
   .unfold Xjl at hi
    cases i with
    |zero=>
     simp at hi
     subst hi
     exact⟨.ref a,rfl,vs0,B,rfl,rfl,ha,hB⟩
    |succ i=>
     rw[getElem?_cons_succ]at hi
     try dsimp only
     rw[if_neg (by omega)]
     by_cases z:i<ds.length
     .rw [getElem?_append_left (by simpa using z),getElem?_map,getElem?_eq_getElem z]at hi
      simp at hi
      subst hi
      obtain⟨v,g1,g2⟩:=hr'.get (getElem?_eq_getElem z)
      refine⟨v,?_,rfl,g2⟩
      unfold Xe0
      rw[map_cons,cons_append,getElem?_cons_succ,getElem?_append_left (by simp;omega),getElem?_map,g1]
      rfl
     .rw [getElem?_append_right (by simpa using z)]at hi
      have:=mem_of_getElem? hi
      rw[mem_replicate]at this
      cases this.2
   .unfold Xjl at hi
    cases i with
    |zero=>simp at hi
    |succ i=>
     rw[getElem?_cons_succ]at hi
     by_cases z:i<ds.length
     .rw [getElem?_append_left (by simpa using z),getElem?_map,getElem?_eq_getElem z]at hi
      simp at hi
     .rw [getElem?_append_right (by simpa using z)]at hi
      have:=mem_of_getElem? hi
      rw[mem_replicate]at this
      cases this.2
   .try dsimp only
    split
    .exact hnd
    .exact nodup_nil
   .try dsimp only at y1 y2
    split at y1
    .split at y2
     .omega
     .cases y2
    .cases y1
   .try dsimp only at hb
    split at hb
    .refine ⟨hnf b hb,if_pos hb,?_⟩
     rcases mem_cons.mp hb with y |y
     .rw [y];exact⟨_,ha,rfl⟩
     .exact hB.isl b y
    .cases hb
  refine⟨t,h1,h2 F _ F H (Xe0 N (V.ref a::Xht)) (Xjl N a ts ds) {nx:=λM=>∃ts',M[0]?=some (some (.own (.rt a ts')))/\Pr ts',rt:=λ_=>False} _ ⟨_,er⟩ ⟨λF' H' Y M e p=>?_,λ_ _ _ _ _ z=>z.elim,λ_ _ _ _ _ z=>z.elim,λ_ _ _ _ _ _ z=>z.elim⟩ (h3 a ts ds Pr hsp)⟩
  obtain⟨A',e⟩:=e
  obtain⟨ts',h0,hp⟩:=p
  obtain⟨v,hv,vs',B',rfl,eA,g1,g2⟩:=e.own 0 _ h0
  have hn':=e.nod 0
  rw[eA]at hn'
  refine hq ts' F' H' vs' B' hp e.ext.ff e.ext.fh (λb o y z=>?_) (λb o y1 y2 y3 y4=>?_) g1 g2 hn' (λb hb=>?_)
  .exact e.ext.hh b o (by rw[if_neg y];exact z)
  .exact e.ext.no b o y1 (by rw[if_neg y4];exact y2) y3
  .obtain ⟨z1,z2,_⟩:=e.new 0 b (by rw[eA];exact hb)
   refine⟨z1,?_⟩
   by_cases q:b∈a::B
   .exact .inl q
   .rw [if_neg q]at z2;exact .inr z2
def Yo9 (t:TS):Prop:=∀E Y H,t {E with nx:=λY' H'=>Y'=Y->E.nx Y' H'} Y H->t E Y H
theorem Ykw {E:Ends}{Y:St}:(λH'=>Y=Y->E.nx Y H')=E.nx Y:=funext λH'=>propext ⟨λz=>z rfl,λz _=>z⟩
theorem Yba {te to ti:TE}{r:Yja}:Yo9 (Ycr te (Yml to ti r)):=λE Y H h=>by
 have h':te Y H λx H1=>to Y H1 λo H2=>ti Y H2 λi H3=>r o i x H3 (λH'=>Y=Y->E.nx Y H'):=h
 rw[Ykw]at h'
 exact h'
theorem Xfo.untag {F0 H0 F H:Hp}{Y:St}{M:Dst}{i:Nat}{a:Addr}{ts:List OV}(e:Xfo K F0 H0 F H Y M)(h:M[i]?=some (some (.own (.rt a ts)))):Y[i]?=some (some (.ref a))/\Xfo K F0 H0 F H Y (M.set i (some (.own (.nl ts)))):=by
 obtain⟨A,e⟩:=e
 obtain⟨v,hv,vs,B,rfl,eA,h1,h2⟩:=e.own i _ h
 have hlt:i<M.length:=(List.getElem?_eq_some_iff.mp h).1
 refine⟨hv,A,by simp[e.len],e.ext,λj t hj=>?_,λj d hj=>?_,e.nod,e.dis,e.new⟩
 .by_cases z:j=i
  .subst z
   rw[getElem?_set_self hlt]at hj
   cases hj
   exact⟨_,hv,a,vs,B,rfl,eA,h1,h2⟩
  .rw [getElem?_set_ne (Ne.symm z)]at hj
   exact e.own j t hj
 .by_cases z:j=i
  .subst z
   rw[getElem?_set_self hlt]at hj
   cases hj
  .rw [getElem?_set_ne (Ne.symm z)]at hj
   exact e.bw j d hj
theorem Xfo.retag {F0 H0 F H:Hp}{Y:St}{M:Dst}{i:Nat}{a:Addr}{ts:List OV}(e:Xfo K F0 H0 F H Y M)(h:M[i]?=some (some (.own (.nl ts))))(hσ:Y[i]?=some (some (.ref a))):Xfo K F0 H0 F H Y (M.set i (some (.own (.rt a ts)))):=by
 obtain⟨A,e⟩:=e
 obtain⟨v,hv,a',vs,B,rfl,eA,h1,h2⟩:=e.own i _ h
 rw[hσ]at hv
 cases hv
 have hlt:i<M.length:=(List.getElem?_eq_some_iff.mp h).1
 refine⟨A,by simp[e.len],e.ext,λj t hj=>?_,λj d hj=>?_,e.nod,e.dis,e.new⟩
 .by_cases z:j=i
  .subst z
   rw[getElem?_set_self hlt]at hj
   cases hj
   exact⟨_,hσ,vs,B,rfl,eA,h1,h2⟩
  .rw [getElem?_set_ne (Ne.symm z)]at hj
   exact e.own j t hj
 .by_cases z:j=i
  .subst z
   rw[getElem?_set_self hlt]at hj
   cases hj
  .rw [getElem?_set_ne (Ne.symm z)]at hj
   exact e.bw j d hj
theorem Ye7 {i:Nat}{t:TS}{T:DS}(hl:Yo9 t)(h:Xfn K t T):Xfn K t (Ymt i T):=λF0 H0 F H Y M De E e l w=>by
 unfold Ymt at w
 split at w
 .rename_i a ts hs
  obtain⟨hσ,e'⟩:=e.untag hs
  have lk:Lk K F0 H0 {De with nx:=λM'=>match M'[i]? with |some (some (.own (.nl ts')))=>De.nx (M'.set i (some (.own (.rt a ts')))) |_=>False} {E with nx:=λY' H'=>Y'=Y->E.nx Y' H'}:=by
   refine⟨λF1 H1 Y1 M1 e1 p hq=>?_,l.bk,l.ct,l.rt⟩
   subst hq
   dsimp only at p
   split at p
   .rename_i ts' hs'
    exact l.nx F1 H1 _ _ (e1.retag hs' hσ) p
   .exact p.elim
  exact hl E Y H (h F0 H0 F H Y _ _ _ e' lk w)
 .exact w.elim
end
section
variable {K:Frag}{X:Cx}
theorem ER.putBw {F0 H0 F H:Hp}{Y:St}{M:Dst}{A:Nat->List Addr}(e:ER K F0 H0 F H Y M A)(i:Nat){d:D}{v:V}(h:Rep K H0 d v):ER K F0 H0 F H (Y.set i (some v)) (M.set i (some (.bw d))) A:=by
 refine⟨by simp[e.len],e.ext,λj t hj=>?_,λj d' hj=>?_,e.nod,e.dis,e.new⟩
 .by_cases z:j=i
  .subst z
   have hl0:j<M.length:=by
    have:=(List.getElem?_eq_some_iff.mp hj).1
    rwa[length_set]at this
   rw[getElem?_set_self hl0]at hj
   cases hj
  .rw [getElem?_set_ne (Ne.symm z)]at hj ⊢
   exact e.own j t hj
 .by_cases z:j=i
  .subst z
   have hl0:j<M.length:=by
    have:=(List.getElem?_eq_some_iff.mp hj).1
    rwa[length_set]at this
   rw[getElem?_set_self hl0]at hj
   cases hj
   exact⟨v,getElem?_set_self (by rw[e.len];exact hl0),h⟩
  .rw [getElem?_set_ne (Ne.symm z)]at hj ⊢
   exact e.bw j d' hj
theorem Yc5 {te tl:TE}{El:DE}{Eo:DO}{ix:List (Option Nat)}(hl:Xhv K tl El)(he:Xj5 K te Eo):Xj5 K (Xyy (Yio K tl) ix (Xu5 0) te) (Yf7 El ix Eo):=λF0 H0 F H Y M P Q e w q=>
 hl F0 H0 F H Y M _ _ e w λd v F1 H1 p x1 r1=>by
  try dsimp only at p
  split at p
  case h_2=>exact p.elim
  rename_i ds
  obtain⟨aL,vsL,rfl,hq1,hq2⟩:=r1
  have hql:=hq2.length
  refine⟨aL,rfl,⟨vsL,hq1⟩,?_⟩
  intro L hL
  obtain⟨A,e⟩:=e.on x1
  obtain⟨W,w0,ws,wd⟩:=p
  have f1:Xbi F1 H1:=x1.fh
  refine⟨λi m Y ys H=>m=ds.length-i/\i<=ds.length/\∃F M ts B,ER K F1 H1 F H Y M (λ_=>[])/\W i M ts/\F L=none/\H L=some (.lst ys)/\Xa6 K F H ts ys B/\(L::B).Nodup/\∀b∈B,H1 b=none/\F b=none,
   ⟨ds.length,by simp,zero_le _,F1,_,[],[],e.blk ix (Xbi.new hL),w0,f1.free hL,Xa3,⟨rfl,rfl⟩,by simp,λ_ h=>by cases h⟩,?_⟩
  rintro i m Y2 ys H2 ⟨rfl,hil,F2,M2,ts,B,e2,w2,l1,l2,hr,nd,nw⟩
  have hqn:=e2.ext.hh.seq hq1
  by_cases hlt:i<ds.length
  .obtain ⟨d0,hd0⟩:∃d,ds[i]?=some d:=⟨_,getElem?_eq_getElem hlt⟩
   have hl:=hr.length
   refine .inr ⟨Xy0 (by have:=(ws i d0 M2 ts hd0 w2).1;omega),⟨vsL,vsL[i]'(by omega),hqn,getElem?_eq_getElem (by omega)⟩,λx H3 y=>?_⟩
   obtain⟨rfl,y⟩:=y
   obtain⟨d,hd,r3⟩:=hq2.get' (y vsL hqn)
   have x3:=Ext.refl e2.ext.fh
   have F3e:F2=F2:=rfl
   have w4:=(ws i d M2 ts hd w2).2
   unfold gB at w4
   have e4':=e2.putBw 0 r3
   refine he F1 H1 F2 _ _ _ _ _ ⟨_,e4'⟩ w4 λr v F5 H5 p5 x5 n5=>?_
   have x25:=x3.trans x5
   have l5:=x25.hh _ _ l2
   have l5f:=x25.no L _ l1 l2 rfl
   refine⟨l5,ds.length-(i+1),by omega,rfl,hlt,F5,M2.set 0 (some (.bw d)),ts++[r],?_⟩
   obtain⟨C,c1,c2,c3⟩:=n5
   obtain⟨n1,n2⟩:=nodup_cons.mp nd
   have hLC:L∉C:=λz=>by
    have q:=(c3 L z).1
    rw[x3.hh _ _ l2]at q;cases q
   have hBC:∀b,b∈B->b∉C:=λb hb z=>by
    obtain⟨xs,q,himm⟩:=hr.isl b hb
    have:=(c3 b z).1
    rw[x3.hh _ _ q]at this;cases this
   have e5:=e4'.on x5
   refine⟨B++C,⟨e5.len,⟨e5.ext.ff,λb o h=>?_,λb o h=>?_,e5.ext.no⟩,λj t hj=>?_,e5.bw,e5.nod,e5.dis,λ_ _ h=>by cases h⟩,p5,l5f,Xa3,?_,?_,λb hb=>?_⟩
   .exact Xaz (λz=>by rw[z,hL]at h;cases h) (e5.ext.hh _ _ h)
   .exact Xaz (λz=>by rw[z,l5f]at h;cases h) (e5.ext.fh _ _ h)
   .obtain ⟨u,h1,h2⟩:=e5.own j t hj
    exact⟨u,h1,h2.frame (Xbi.refl _) λ_ z=>by cases z⟩
   .exact Xa6.append (hr.frame x25.ff λb hb xs z=>Xaz (λq=>n1 (by rw[<- q];exact hb)) (x25.hh _ _ z)) (Xa6.one (c1.frame (Xbi.refl _) λb hb xs z=>Xaz (λq=>hLC (by rw[<- q];exact hb)) z))
   .refine nodup_cons.mpr ⟨λz=>?_,nodup_append.mpr ⟨n2,c2,λx hx y hy z=>by subst z;exact hBC x hx hy⟩⟩
    rcases mem_append.mp z with z |z
    .exact n1 z
    .exact hLC z
   .rcases mem_append.mp hb with z |z
    .obtain ⟨xs,qq,himm⟩:=hr.isl b z
     exact⟨(nw b z).1,x25.no b _ (nw b z).2 qq himm⟩
    .exact ⟨(e2.ext.hh.trans x3.hh).free (c3 b z).1,(c3 b z).2⟩
  .have hi':i=ds.length:=by omega
   subst hi'
   refine .inl ⟨⟨vsL,hqn,by omega⟩,q _ _ F2 H2 (wd _ _ w2) (x1.trans e2.ext) ⟨L::B,⟨L,ys,B,rfl,rfl,l2,hr⟩,nd,λb hb=>?_⟩⟩
   rcases mem_cons.mp hb with rfl |z
   .exact ⟨x1.hh.free hL,l1⟩
   .exact ⟨x1.hh.free (nw b z).1,(nw b z).2⟩
def Ykf (K:Frag):List V->Hp->VK->Prop:=λxs H Q=>∃(l:Addr) (bs:List Bool),xs=[.ref l]/\SqL K H l (bs.map V.bl)/\Q (.bl (bs.all id)) H
def Yke (K:Frag):List V->Hp->VK->Prop:=λxs H Q=>∃(l:Addr) (bs:List Bool),xs=[.ref l]/\SqL K H l (bs.map V.bl)/\Q (.bl (bs.any id)) H
theorem Xoq:∀{bs:List Bool} {us:List Value},Xcd (bs.map V.bl) us->∀{i:Nat} {v:Value},us[i]?=some v->∃b,bs[i]?=some b/\v = .bool b
 | [],_,.nil,i,v,e=>by simp at e
 |b::bs,u::us,.cons r t,0,v,e=>by
  simp at e
  subst e
  exact⟨b,rfl,r⟩
 |b::bs,u::us,.cons r t,i+1,v,e=>by
  obtain⟨b',h1,h2⟩:=Xoq (bs:=bs) t (i:=i) (by simpa using e)
  exact⟨b',by simpa using h1,h2⟩
theorem Xgp (hc:X.calm=true):Xhq X (.builtin "all") (Ykf X.K):=by
 intro pins s Y H xs us Q I r h
 obtain⟨l,bs,rfl,hq,q⟩:=h
 obtain⟨u,rfl,ru⟩:=Xhx r
 cases ru
 obtain⟨its,rv,pl,hz⟩:=I.list hq
 have hl:=pl.isList
 have hn:=rv.length
 rw[length_map]at hn
 have hlt:l<s.heap.objs.size:=by obtain⟨_,e,_⟩:=hl;exact lt_size e
 refine call_all_walk (wpAny_pyIter_list hl ?_)
 refine⟨s.heap.objs.size,[s.heap.objs.size,l],[s.heap.objs.size],its.toArray.size,_,_,λi=>(bs[i]?).getD true,rfl,Walks.list (A:=X.A.in1) (I.ok.hd hc) _ l (ne_of_lt hlt) its.toArray,
  ⟨⟨_,get?_push_size _ rfl,rfl,rfl⟩,hl.push _⟩,λi v s' Q' E' hP hQ=>?_,λh' tk hk=>?_⟩
 .obtain ⟨b,e,rfl⟩:=Xoq rv (i:=i) (v:=v) (by simpa using hP)
  simp only[e,getD_some]at hQ
  exact wpAny_truthy_bool hQ
 .have e:((List.range its.toArray.size).all λi=>(bs[i]?).getD true)=bs.all id:=by
   rw[size_toArray,<- hn];exact LSm.range_all bs
  rw[e]
  exact⟨.bl _,H,I.kept (t':=tk) (LSm.kept_iter hk),rfl,q⟩
theorem Yb5 (hc:X.calm=true):Xhq X (.builtin "any") (Yke X.K):=by
 intro pins s Y H xs us Q I r h
 obtain⟨l,bs,rfl,hq,q⟩:=h
 obtain⟨u,rfl,ru⟩:=Xhx r
 cases ru
 obtain⟨its,rv,pl,hz⟩:=I.list hq
 have hl:=pl.isList
 have hn:=rv.length
 rw[length_map]at hn
 have hlt:l<s.heap.objs.size:=by obtain⟨_,e,_⟩:=hl;exact lt_size e
 refine call_any_walk (wpAny_pyIter_list hl ?_)
 refine⟨s.heap.objs.size,[s.heap.objs.size,l],[s.heap.objs.size],its.toArray.size,_,_,λi=>(bs[i]?).getD false,rfl,Walks.list (A:=X.A.in1) (I.ok.hd hc) _ l (ne_of_lt hlt) its.toArray,
  ⟨⟨_,get?_push_size _ rfl,rfl,rfl⟩,hl.push _⟩,λi v s' Q' E' hP hQ=>?_,λh' tk hk=>?_⟩
 .obtain ⟨b,e,rfl⟩:=Xoq rv (i:=i) (v:=v) (by simpa using hP)
  simp only[e,getD_some]at hQ
  exact wpAny_truthy_bool hQ
 .have e:((List.range its.toArray.size).any λi=>(bs[i]?).getD false)=bs.any id:=by
   rw[size_toArray,<- hn];exact LSm.range_any bs
  rw[e]
  exact⟨.bl _,H,I.kept (t':=tk) (LSm.kept_iter hk),rfl,q⟩
theorem Xlj {F:Hp}:∀{bs:List Bool} {vs:List V},Xb6 K F (bs.map D.bl) vs->vs=bs.map V.bl
 | [],vs,h=>h
 |b::bs,vs,h=>by
  obtain⟨v,r,rfl,h1,h2⟩:=h
  rw[show v=V.bl b from h1,Xlj h2];rfl
theorem Xp7:CbS K (Ykf K) Yno:=λF H ds vs P Q s rs w q=>by
 unfold Yno at w
 split at w
 .obtain ⟨bs,rfl,w⟩:=w
  obtain⟨v,rfl,p,us,rfl,h1,h2⟩:=Xhf rs
  have e:=Xlj h2
  subst e
  exact⟨p,bs,rfl,h1,q _ _ F H w (Ext.refl s) rfl⟩
 .exact w.elim
theorem Yl7:CbS K (Yke K) Ynm:=λF H ds vs P Q s rs w q=>by
 unfold Ynm at w
 split at w
 .obtain ⟨bs,rfl,w⟩:=w
  obtain⟨v,rfl,p,us,rfl,h1,h2⟩:=Xhf rs
  have e:=Xlj h2
  subst e
  exact⟨p,bs,rfl,h1,q _ _ F H w (Ext.refl s) rfl⟩
 .exact w.elim
theorem Yk7 {n:Nat}{k:Int}{j:Nat}(h:ixN n k=some j):j<n:=by
 unfold ixN at h
 split at h
 .split at h
  .cases h;omega
  .cases h
 .split at h
  .cases h;omega
  .cases h
theorem Xzo {i:Nat}{te tk tm:TE}{E Ek Em:DE}(h:Xey K te E)(hk:Xhv K tk Ek)(hm:Xhv K tm Em):Xfn K (Ycr te (Yml (tOp (Ymh K) (Xm7 i) tk) tm Ydi)) (Yjx i Ek Em E):=λF0 H0 F H Y M De En e l w=>by
 refine h F0 H0 F H Y M _ _ e w λd u F1 H1 p x1 rd=>?_
 obtain⟨A,e⟩:=e
 split at p
 .rename_i ts hs
  have e1:=e.on x1
  obtain⟨v,hv,a,vs,B,rfl,eA,ha,hB⟩:=e1.own i _ hs
  refine⟨_,hv,?_⟩
  refine hk F0 H0 F1 H1 Y M _ _ ⟨A,e1⟩ p λk kv F2 H2 p2 x2 r2=>?_
  try dsimp only at p2
  split at p2
  .rename_i k
   obtain⟨j,us,hj,hu,p2⟩:=p2
   have e2:=e1.on x2
   have ha2:=x2.hh _ _ ha
   have hB2:Xa6 K F2 H2 ts vs B:=hB.frame x2.ff λb _ xs z=>x2.hh _ _ z
   have hlv:=hB2.length
   obtain⟨v0,A1,B0,A2,f1,rfl,f3,f4⟩:=hB2.focus hu
   obtain⟨c,ws,C0,rfl,rfl,hc,hws⟩:=f3
   have at1:atI vs k=some (.ref c):=by
    unfold atI
    rw[<- hlv,hj];exact f1
   refine⟨a,vs,k,.ref c,rfl,r2,SqL.of ha2,at1,?_⟩
   refine hm F0 H0 F2 H2 Y M _ _ ⟨A,e2⟩ p2 λm mv F3 H3 p3 x3 r3=>?_
   try dsimp only at p3
   split at p3
   .rename_i m
    obtain⟨q,hq,p3⟩:=p3
    have e3:=e2.on x3
    have hlw:=hws.length
    refine⟨c,ws,m,q,rfl,r3,x3.hh _ _ hc,by rw[<- hlw];exact hq,?_⟩
    have hql:=Yk7 hq
    have hws3:Xa6 K F3 H3 us ws C0:=hws.frame x3.ff λb _ xs z=>x3.hh _ _ z
    obtain⟨w0,C1,D0,C2,g1,rfl,g3,g4⟩:=hws3.focus (getElem?_eq_getElem hql)
    have hnd:=e.nod i
    rw[eA]at hnd
    have hA:A i=a::(A1++(c::(C1++(D0++C2))++A2)):=eA
    obtain⟨n1,n2⟩:=nodup_cons.mp hnd
    obtain⟨m1,m2,m3⟩:=nodup_append.mp n2
    obtain⟨q1,q2,q3⟩:=nodup_append.mp m2
    obtain⟨s1,s2⟩:=nodup_cons.mp q1
    have hac:a≠c:=λz=>n1 (by rw[z];simp)
    have off:∀b∈A1++A2,b≠c:=λb hb z=>by
     subst z
     rcases mem_append.mp hb with y |y
     .exact m3 b y b (by simp) rfl
     .exact q3 b (by simp) b y rfl
    have offC:∀b∈C1++C2,b≠c:=λb hb z=>by
     subst z
     apply s1
     rcases mem_append.mp hb with y |y<;>simp[y]
    have rd3:Rep K F3 d u:=rd.mono (x2.ff.trans x3.ff)
    have g4':=g4 F3 (upd H3 c (.lst (ws.set q u))) (.fz d) u [] (Xbi.refl _) (λb hb xs z=>Xaz (offC b hb) z) ⟨rfl,rd3⟩
    have f4':=f4 F3 (upd H3 c (.lst (ws.set q u))) (.nl (us.set q (.fz d))) (.ref c) (c::(C1++([]++C2))) x3.ff (λb hb xs z=>Xaz (off b hb) (x3.hh _ _ z)) ⟨c,ws.set q u,_,rfl,rfl,Xa3,g4'⟩
    rw[Xd9 f1]at f4'
    have sub:(a::(A1++(c::(C1++([]++C2))++A2))).Sublist (A i):=by
     rw[hA]
     exact List.Sublist.cons₂ _ (List.Sublist.append (List.Sublist.refl _) (List.Sublist.append (List.Sublist.cons₂ _ (List.Sublist.append (List.Sublist.refl _) (List.Sublist.append (List.nil_sublist _) (List.Sublist.refl _)))) (List.Sublist.refl _)))
    refine l.nx F3 _ Y _ (e3.change i hv (t':=.nl (ts.set j (.nl (us.set q (.fz d))))) (B:=a::(A1++(c::(C1++([]++C2))++A2))) ⟨a,vs,_,rfl,rfl,Xaz hac (x3.hh _ _ ha2),f4'⟩ ?_ ?_ ?_ ?_) p3
    .exact (e.nod i).sublist sub
    .intro b hb
     exact⟨(e3.new i b (sub.subset hb)).1,(e3.new i b (sub.subset hb)).2.1⟩
    .intro j' hj' b hb z
     exact e.dis j' i b hj' z (sub.subset hb)
    .intro b o hb q'
     exact Xaz (λz=>hb (by rw[hA,z];simp)) q'
   .exact p3.elim
  .exact p2.elim
 .exact p.elim
def Yj5 (K:Frag):V->Int->Hp->VK->Prop:=λx c H Q=>∃a xs,x = .ref a/\SqL K H a xs/\0<c/\∀p H',H p=none->Xbi H H'->H' p=some (.lst (Xqc xs c))->Q (.ref p) H'
def Yjj (r:V->Int->Hp->VK->Prop)(te tc:TE):TE:=λY H Q=>te Y H λx H1=>tc Y H1 λc H2=>∃i,c = .int i/\r x i H2 Q
theorem Xm2 {xs:List V}{us:List Value}(h:Xcd xs us):∀(js:List Nat),Xcd (js.filterMap (xs[·]?)) (js.filterMap (us.toArray[·]?))
 | []=>.nil
 |j :: js=>by
  have ih:=Xm2 h js
  by_cases hj:j<xs.length
  .have hj':j<us.length:=by rw[<- h.length];exact hj
   obtain⟨u,hu,ru⟩:=h.get (i:=j) (x:=xs[j]) (by simp[hj])
   have e1:xs[j]?=some xs[j]:=by simp[hj]
   have e2:us.toArray[j]?=some u:=by simpa using hu
   rw[filterMap_cons_some e1,filterMap_cons_some e2]
   exact .cons ru ih
  .have hj':¬ j<us.length:=by rw[<- h.length];exact hj
   have e1:xs[j]?=none:=by simp;omega
   have e2:us.toArray[j]?=none:=by simp;omega
   rw[List.filterMap_cons_none e1,List.filterMap_cons_none e2]
   exact ih
theorem Yaj {e c:Expr}{te tc:TE}{p2 pos:Pos}(he:PE X e te)(hc:PE X c tc):PE X (.Subscript e (.Slice none none (some c) p2) pos) (Yjj (Yj5 X.K) te tc):=by
 intro pins s Y H Q I h
 refine Subscript_ (thn (he pins s Y H _ I h) λv s1 ⟨x,H1,I1,r1,q1⟩=>?_)
 refine wpAny_Slice ?_
 rw[evalPart_none]
 refine wpAny_pure ?_
 rw[evalPart_some]
 refine wpAny_pure ?_
 refine thn (hc pins s1 Y H1 _ I1 q1) λvc s3 ⟨y,H3,I3,rc,i,ey,q3⟩=>?_
 subst ey
 obtain⟨a,xs,rfl,hq,hi,q⟩:=q3
 obtain⟨tk,rfl⟩:=rc
 cases r1
 have I4:Inv X pins Y H3 {s3 with heap:=s3.heap.push {cls:=.type "slice",data:=.fields #[.none,.none,.int i tk]}}:=I3.kept (t':=s3.toks) λb ob q=>get?_push_of_some _ q
 obtain⟨its,rv,pl,hz⟩:=I4.list hq
 have hn:=rv.length
 have hbd:sliceBounds none none (some i) its.toArray.size=(0,(xs.length:Int),i):=by
  unfold sliceBounds
  simp[hi,hn]
 have hpk:slicePick its.toArray none none (some i)=((sliceRange 0 xs.length i).filterMap (its.toArray[·]?)).toArray:=by
  unfold slicePick
  rw[hbd]
 show wpAny (model X.prog X.w) X.A (subscriptTail e (.Slice none none (some c) p2) (.ref a) (.ref s3.heap.objs.size)) (EP X pins Y Q) X.xe {s3 with heap:=s3.heap.push {cls:=.type "slice",data:=.fields #[.none,.none,.int i tk]}}
 refine tail_any (T := "list") (ops:=[.ref a,.ref s3.heap.objs.size]) pl.isList.typeIs slot_list_getitem.lookup ?_ (by with_unfolding_all rfl)
 refine wpAny_getItem_list_slice pl.isList (Heap.IsSliceOf.new ..) .none .none (.int i tk) (by intro z;injection z with z;omega) ?_ (by rw[size_toArray]<;>omega)
 rw[hpk]
 have hle:(Xqc xs i).length<=xs.length:=by
  have h1:=slicePick_size_le its.toArray none none (some i)
  rw[hpk,size_toArray,size_toArray]at h1
  have h2:=(Xm2 rv (sliceRange 0 xs.length i)).length
  show ((sliceRange 0 xs.length i).filterMap (xs[·]?)).length<=_
  omega
 have hf:=I4.hok.fresh (Nat.le_refl _)
 refine⟨.ref _,_,I4.laid (t':=s3.toks) (o:=.lst (Xqc xs i)) (λb ob q=>get?_push_of_some _ q) (Nat.le_refl _) ?_,rfl,q _ _ hf (Xbi.new hf) Xa3⟩
 exact⟨le_trans hle hz,_,0,Xm2 rv (sliceRange 0 xs.length i),get?_push_size _ rfl⟩
theorem Xb6.pick {F:Hp}{ds:List D}{vs:List V}(h:Xb6 K F ds vs):∀(js:List Nat),Xb6 K F (js.filterMap (ds[·]?)) (js.filterMap (vs[·]?))
 | []=>rfl
 |j :: js=>by
  have ih:=Xb6.pick h js
  have hl:=h.length
  by_cases hj:j<ds.length
  .obtain ⟨v,hv,rv⟩:=h.get (i:=j) (d:=ds[j]) (by simp[hj])
   have e1:ds[j]?=some ds[j]:=by simp[hj]
   rw[filterMap_cons_some e1,filterMap_cons_some hv]
   exact⟨v,_,rfl,rv,ih⟩
  .have e1:ds[j]?=none:=by simp;omega
   have e2:vs[j]?=none:=by simp;omega
   rw[List.filterMap_cons_none e1,List.filterMap_cons_none e2]
   exact ih
theorem Xb6.step {F:Hp}{ds:List D}{vs:List V}(h:Xb6 K F ds vs)(c:Int):Xb6 K F (Xqc ds c) (Xqc vs c):=by
 unfold Xqc
 rw[h.length]
 exact h.pick _
theorem Xzs {ta tc:TE}{Ea Ec:DE}(ha:Xey K ta Ea)(hc:Xhv K tc Ec):Xj5 K (Yjj (Yj5 K) ta tc) (Ylo Ea Ec):=λF0 H0 F H Y M P Q e w q=>
 ha F0 H0 F H Y M _ _ e w λx v F1 H1 w1 x1 r1=>hc F0 H0 F1 H1 Y M _ _ (e.on x1) w1 λc u F2 H2 w2 x2 r2=>by
  have x12:=x1.trans x2
  try dsimp only at w2
  split at w2
  .obtain ⟨c0,w2⟩:=w2
   obtain⟨p,vs,rfl,h1,h2⟩:=r1.mono x2.ff
   exact⟨_,r2,p,vs,rfl,x2.fh.seq h1,c0,λl H' l0 sm l1=>q _ _ F2 H' w2 (x12.trans (Ext.grow x2.fh sm)) (Xpc.list (x12.hh.free l0) (x2.fh.free l0) l1 (h2.step _))⟩
  .exact w2.elim
structure DefAtD (K:Frag) (mg:Str->Option Value) (x:Str) (st:Stmt) (f:Addr) (fd:FuncData) (T:Addr) (items:Array Value):Prop where
 ex:∃(oc:Value) (od:Option Addr) (kV doc pm:Value) (an:Option Addr) (cdv ct:Value) (osl:Array (Option Value)),
  fd=fnOf x x (Xb9 st) (Xbn st) (Xaf st) (.ref T) kV doc pm an cdv ct/\K.lookup f=some ⟨oc,od,.func fd,osl⟩/\codeIn K cdv x=true
 tup:∃o n,K.lookup T=some o/\o.data = .seq items n
 kp:keepIn K (.ref f)=true
 here:mg x=some (.ref f)
structure CalD (P:Program) (w:World) (K:Frag) (mg:Str->Option Value) (base:Heap) (x:Str) (k:Nat) (ps:List Str) (sp:Sp) (dvs:List V):Prop where
 ex:∃f fd ds,FnOk P w K mg base CX0 k f fd ps sp/\mg x=some (.ref f)/\keepIn K (.ref f)=true/\Xk6 K fd ps []/\Xk6 K fd ps ds/\Xcd dvs ds
theorem CalD.cal {P:Program}{w:World}{mg:Str->Option Value}{base:Heap}{x:Str}{k:Nat}{ps:List Str}{sp:Sp}{dvs:List V}(C:CalD P w K mg base x k ps sp dvs):Cal P w K mg base x k ps sp:=by
 obtain⟨f,fd,ds,a,b,c,d,_⟩:=C.ex
 exact⟨f,fd,a,b,c,d⟩
theorem Yhq {x:Str}{k:Nat}{ps:List Str}{sp:Sp}{dvs:List V}{e:Expr}{es:List Expr}{t:TA}{p pos:Pos}(C:CalD X.prog X.w X.K X.mg X.base x k ps sp dvs)(hr:Room k X.A)(hg:Gl X x)(ha:PA X (e::es) t)
  (hdb:(x==("__debug__":Str))=false:=by decide) (he:starEach (e::es) X.env=(false,eval e X.env)::starEach es X.env:=by rfl) (hpl:(backTo pos (starEach es X.env)).any (·.1)=false:=by rfl):
  PE X (.Call (.Name x p) (e::es) [] pos) (Xt2 sp dvs E0 t):=by
 obtain⟨f,fd,ds,F,hm,hk,_,hb,hv⟩:=C.ex
 exact Yak F hr hg hm hk hb hv Xxu ha hdb he hpl
theorem CalVD.of {P:Program}{w:World}{mg:Str->Option Value}{base:Heap}{x:Str}{st:Stmt}{f T:Addr}{items:Array Value}{fd:FuncData}{N ps:List Str}{k n:Nat}{sp:DSp}{ds:List Value}{dvs:List V}(Df:DefAtD K mg x st f fd T items)(S:FnScope N ps (Xaf st))
  (hb:∀(kV doc pm:Value) (an:Option Addr) (cdv ct:Value) (us:List Value),us.length=ps.length->∃k,bindArgs (fnOf x x (Xb9 st) (Xbn st) (Xaf st) (.ref T) kV doc pm an cdv ct) ⟨us,[]⟩=seqItems? (.ref T) >>= k/\k (some items)=pure (ps.zip us))
  (hb2:∀(kV doc pm:Value) (an:Option Addr) (cdv ct:Value) (us:List Value),(us++ds).length=ps.length->∃k,bindArgs (fnOf x x (Xb9 st) (Xbn st) (Xaf st) (.ref T) kV doc pm an cdv ct) ⟨us,[]⟩=seqItems? (.ref T) >>= k/\k (some items)=pure (ps.zip (us++ds)))
  (hv:Xcd dvs ds) (hn:n=ps.length)
  (hbody:∀(cdv:Value) (A:Around) (outer:List Env) (s:Shared) (H:Hp) (E:XK),Room k (A.deeper (envOfC x (Xaf st) s.heap.objs.size f cdv))->
   ∃t T,PSs (Xvd CX0 P w K mg base N x (Xaf st) f cdv A outer s H E).nox (Xbn st) t/\Xfn K t T/\∀ds Pr,sp ds Pr->T {nx:=λ_=>Pr (.fz .non),rt:=Pr} (Xgg N ds)):CalD P w K mg base x (k+1) ps (spV K n sp) dvs:=by
 obtain⟨oc,od,kV,doc,pm,an,cdv,ct,osl,rfl,lk,hcd⟩:=Df.ex
 obtain⟨o,m,ht,hs⟩:=Df.tup
 refine⟨f,_,ds,Yll lk hcd S (λvs H Q E h=>by rw[<- hn];exact h.1) (λA outer s H vs Q E hr h=>?_),Df.here,Df.kp,λs us KX hl=>?_,λs us KX hl=>?_,hv⟩
 .obtain ⟨_,F,ds',Pr,hs',hr',hsp,hq⟩:=h
  obtain⟨t,T',h1,h2,h3⟩:=hbody cdv A outer s H E hr
  refine⟨t,h1.nox,h2 F H F H (Xe0 N vs) (Xgg N ds') {nx:=λ_=>Pr (.fz .non),rt:=Pr} _ ⟨_,Xj7 hs' hr'⟩ ⟨λF' H' Y M e p=>?_,λ_ _ _ _ _ z=>z.elim,λ_ _ _ _ _ z=>z.elim,λF' H' r v x n p=>hq r v F' H' p x n⟩ (h3 ds' Pr hsp)⟩
  exact hq _ _ F' H' p e.ext (.fz rfl)
 .rw [append_nil]at hl ⊢
  obtain⟨k',e1,e2⟩:=hb kV doc pm an cdv ct us hl
  exact binds_K KX rfl ht hs e1 e2
 .obtain ⟨k',e1,e2⟩:=hb2 kV doc pm an cdv ct us hl
  exact binds_K KX rfl ht hs e1 e2
theorem Yc8 {n:Nat}{sp:DSp}{a:TA}{As:DA}{dds:List D}{dvs:List V}(hd:∀F,Xb6 K F dds dvs)(ha:Xiy K a As):Xj5 K (Xt2 (spV K n sp) dvs E0 a) (Yf9 n sp dds As):=λF0 H0 F H Y M P Q e w q=>ha F0 H0 F H Y M _ _ e w λds vs F1 H1 w1 x1 r1=>by
 have r2:=r1.append (hd F1)
 exact⟨by rw[<- r2.length];exact w1.1,F1,ds++dds,P,x1.fh,r2,w1.2,λr v F' H' p x' r'=>q r v F' H' p (x1.trans x') (r'.old x1.hh)⟩
end
def Ylp (As:DA):DA:=λM P=>As M λds=>match ds with
 | [.int i,.int j,.int c]=>c = -1/\(-(2^61)<=i/\i<2^61/\-(2^61)<=j/\j<2^61)/\P (rng i (-1) (i-j).toNat)
 |_=>False
section
variable {X:Cx}{K:Frag}{tg:Expr}
theorem Xv7 {i j:Int}:Builtin.Range.rangeSize i j (-1)=((i-j).toNat:Int):=by
 unfold Builtin.Range.rangeSize
 rw[if_neg (by decide)]
 split
 .rw [show (-(-1):Int)=1 by decide,ediv_one];omega
 .omega
theorem Xxf {a b:Int}(h1 : -(2^61)<=a)(h2:a<2^61)(h3 : -(2^61)<=b)(h4:b<2^61):Builtin.Range.small a b (-1)=true:=by
 unfold Builtin.Range.small
 rw[Xv7]
 generalize hz:((a-b).toNat:Int)=z
 simp only[Builtin.Range.rangeFitsLong,and_eq_true,Bool.or_eq_true,decide_eq_true_eq,beq_iff_eq,show ¬ ((-1:Int) > 0) from by decide,if_false]
 omega
def Yle (ta:TA):TI:=λY H R=>ta Y H λvs H1=>∃i j:Int,vs=[.int i,.int j,.int (-1)]/\(-(2^61)<=i/\i<2^61/\-(2^61)<=j/\j<2^61)/\R (Ymm i (-1) (i-j).toNat) H1
theorem Yah {a b d:Expr}{ta:TA}{p pos:Pos}(hg:Gl X "range")(hm:X.mg "range"=none)(ha:PA X [a,b,d] ta)(hs:starEach [a,b,d] X.env=(false,eval a X.env)::starEach [b,d] X.env:=by rfl)
  (hpl:(backTo pos (starEach [b,d] X.env)).any (·.1)=false:=by rfl):
  PI X tg (.Call (.Name "range" p) [a,b,d] [] pos) (Yle ta):=by
 intro pins s Y H R I h
 refine Call_ (Xgn I hg hm boot_range (PyProof.Rows.callWith_type1 (thn (ha pos pins s Y H _ I h) λus s1 ⟨vs,H1,I1,r1,q1⟩=>?_) hs hpl))
 obtain⟨i,j,e,⟨q1,q2,q3,q4⟩,q⟩:=q1
 subst e
 cases r1 with
 |cons r rr=>
  cases rr with
  |cons r' rr=>
   cases rr with
   |cons r'' rr=>
    cases rr
    obtain⟨t,rfl⟩:=r
    obtain⟨t',rfl⟩:=r'
    obtain⟨t'',rfl⟩:=r''
    refine PySem.call_range_3 (by omega) ?_ (.inl (PyProof.noPylong_small (by decide)))
    refine wpAny_pyIter_range (IsRange.new ..) (Xxf q1 q2 q3 q4) ?_
    have I2:Inv X pins Y H1 {s1 with heap:=s1.heap.push {cls:=.type "range",data:=.fields #[.int i t,.int j t',.int (-1) t'']},toks:=s1.toks}:=I1.kept λb o e=>get?_push_of_some _ e
    refine⟨(s1.heap.push {cls:=.type "range",data:=.fields #[.int i t,.int j t',.int (-1) t'']}).objs.size,[(s1.heap.push {cls:=.type "range",data:=.fields #[.int i t,.int j t',.int (-1) t'']}).objs.size],_,_,H1,rfl,
     I2.kept (t':=s1.toks) λb o e=>get?_push_of_some _ e,Xm3 _ i (-1) (i-j).toNat,?_,λb hb=>?_,q⟩
    .have e1:i+((0:Nat):Int)*(-1)=i:=by simp
     have e2:(((i-j).toNat:Nat):Int)-((0:Nat):Int)=Builtin.Range.rangeSize i j (-1):=by rw[Xv7];simp
     show IsRangeIter _ _ (i+((0:Nat):Int)*(-1)) ((((i-j).toNat:Nat):Int)-((0:Nat):Int)) (-1)
     rw[e1,e2]
     exact get?_push_size _ rfl
    .have e:b=(s1.heap.push {cls:=.type "range",data:=.fields #[.int i t,.int j t',.int (-1) t'']}).objs.size:=by simpa using hb
     subst e
     exact I2.fpOk (Nat.le_refl _) (I2.hok.fresh (Nat.le_refl _))
theorem Yg5 {a:TA}{As:DA}(h:Xos K a As):Xyj K (Yle a) (Ylp As):=λF0 H0 F H Y M P R e w q=>h F0 H0 F H Y M _ _ e w λds vs F' H' p x r=>by
 try dsimp only at p
 split at p
 .obtain ⟨v,u,z,rfl,r1,r2,r3⟩:=Yj4 r
  obtain⟨rfl,p1,p2⟩:=p
  exact⟨_,_,by rw[show v=_ from r1,show u=_ from r2,show z=_ from r3],p1,q _ _ F' H' p2 x Xwu⟩
 .exact p.elim
end
theorem Xme.mapB {α:Type}{Eo:DO}{o:Option Sl}{Xht:Dst}{P:OV->Prop}(xs:List α)(g:α->D)(f:α->OV)(hn:xs.length<=1000000)
  (h:∀x∈xs,∀Q:OV->Prop,Q (f x)->Eo (some (.bw (g x))::Xht) Q) (k:P (.nl (xs.map f))):Xme (gB 0) Eo (xs.map g) (o::Xht) P:=by
 refine⟨λi M ts=>∃o,M=o::Xht/\ts=(xs.take i).map f,⟨o,rfl,by simp⟩,?_,?_⟩
 .rintro i d M ts hd ⟨o,rfl,rfl⟩
  obtain⟨x,hx,rfl⟩:=Xs6 hd
  obtain⟨hi,e⟩:=List.getElem?_eq_some_iff.mp hx
  refine⟨by rw[length_map,length_take];omega,h x (mem_of_getElem? hx) _ ⟨_,rfl,?_⟩⟩
  rw[take_succ_eq_append_getElem hi,e,map_append]
  rfl
 .rintro M ts ⟨o,rfl,rfl⟩
  rw[length_map,take_length]
  exact k
def ibN (i:Int):Nat:=if i=0 then 0 else i.natAbs.log2+1
def Ynw (i j:Int):Prop:=ibN i<=2000000/\ibN j<=2000000
theorem Yin {i:Int}:ibN (i.natAbs:Int)=ibN i:=by
 unfold ibN
 by_cases h:i=0
 .subst h;rfl
 .rw [if_neg h,if_neg (by omega)];rfl
theorem Yf1 {i:Int}{n:Nat}(h1 : -(2^n)<i)(h2:i<2^n):ibN i<=n:=by
 unfold ibN
 split
 .exact zero_le _
 .have hp:((2^n:Nat):Int)=(2:Int)^n:=by simp
  rw[<- hp]at h1 h2
  have hn:i.natAbs<2^n:=by omega
  have:i.natAbs.log2<n:=(Nat.log2_lt (by omega)).mpr hn
  omega
section
variable {K:Frag}{X:Cx}
theorem Ybg {i:Int}:Builtin.Int.intBits i=ibN i:=by
 unfold Builtin.Int.intBits ibN
 by_cases h:i=0
 .subst h;rfl
 .simp [h]
theorem Yar:OpR X (binaryOp .Mult) (rI Ynw λi j=>.int (i*j)):=opI λi j _ _ _ _ _ hc q=>mul_int q (by
 unfold IntMulOk
 have e:Builtin.Int.intTooBig (Builtin.Int.intBits i+Builtin.Int.intBits j)=false:=by
  unfold Builtin.Int.intTooBig
  rw[Ybg,Ybg]
  have h1:=hc.1
  have h2:=hc.2
  exact decide_eq_false (by have:(bitsLine:Int)=2^27:=rfl;omega)
 rw[e];simp)
def Xvz (K:Frag):Sp:=spL 1 λvs H Q=>∃(a:Addr) (ns:List Int),vs=[.ref a]/\SqL K H a (ns.map V.int)/\ns.length<=63/\(∀m∈ns,ibN m<=1048576)/\∀H',Q (.bl true) H'
theorem Xm1:∀(ns:List Int),(∀m∈ns,ibN m<=PySem.W.WData.weightAll (ns.map PySem.W.WData.int))
 | [],m,h=>by cases h
 |n :: ns,m,h=>by
  rw[map_cons]
  simp only[PySem.W.WData.weightAll]
  rcases mem_cons.mp h with rfl |h
  .have:ibN m=PySem.W.WData.weight (PySem.W.WData.int m):=by
    unfold ibN
    simp only[PySem.W.WData.weight]
    by_cases z:m=0
    .subst z;rfl
    .simp [z]
   omega
  .have:=Xm1 ns m h
   omega
end
end L2
namespace Att
open PySem PySem.W PySem.Calls PyProof.Rows
theorem attach_callB {l:OpenLaw}{n:Nat}{q:Program}{loose:List Str}{XP:(Str->Option Value)->Heap->Prop}{YP:World->Heap->Prop}{d:DefRec}
  (hn:l.most=some n) (hdf:d.params.defaults=[])
  (call:∀(w:World) (s₀ s₁:Shared) (mg mb:Str->Option Value) (fa:Addr) (o:Obj) (pm cd doc:Value) (a:Addr) (vs:List Value) (ns:List Int),
   Ground q loose [] XP w s₀ mg mb s₁.heap->YP w s₁.heap->
   s₁.heap.get? fa=some o->o.data = .func (docDef d.name d.params d.body d.scope pm cd doc)->s₁.heap.CodeRec cd d.name->mg d.name=some (.ref fa)->
   s₁.heap.get? a=some {cls:=.type "list",data:=.seq vs.toArray}->IntsAre vs ns->ns.length<=n->(∀m∈ns,L2.ibN m<=1048576)->s₁.gens=#[]->
   codeAny (model l.prog w) callerA (.call (.ref fa) ⟨[.ref a],[]⟩) (λr s'=>r = .ok (.ret (.bool true))/\OldK s₁.heap s'.heap/\s'.os=s₁.os/\AllBare s'.gens) s₁):
  WalkO q loose XP YP l.row.toRowW d [] (λf vs=>PySem.call f vs):=by
 intro w s₀ s₁ mg mb G σ fa o pm cd doc dV kV ho hd hcd hD hmg hg args vals as hpre hlay hrd hwl hlo
 obtain rfl:dV = .none:=Dflts.none hD hdf
 obtain rfl:kV = .none:=Dflts.noKw hD
 obtain⟨a,vs,ns,rfl,rfl,hobj,hints,hlen⟩:=Xr5 hn hpre hwl
 have hbits:∀m∈ns,L2.ibN m<=1048576:=λm hm=>by
  have h1:=L2.Xm1 ns m hm
  have h2:WData.weight (WData.list (ns.map WData.int))<=2^20:=by
   simp only[WData.layableAll,all_cons,WData.layable,and_eq_true,decide_eq_true_eq]at hlay
   exact hlay.1.2
  simp only[WData.weight]at h2
  omega
 refine enter_call (codeAny_mono (call w s₀ s₁ mg mb fa o pm cd doc a vs ns G σ ho (fd_plain hd) hcd hmg hobj hints hlen hbits hg) λr s' hq=>?_)
 obtain⟨rfl,h2,h3,h4⟩:=hq
 exact⟨.inl ⟨.bool true,.bool true,[],rfl,λ_=>rfl,.bool true,Xso l _,λ_=>⟨List.Pairwise.nil,λ_ hm=>(nomatch hm)⟩⟩,h2,h3,h4⟩
end Att
namespace L2
open PySem PySem.Spec PyProof.Rows
theorem Ybd {l:PySem.W.OpenLaw}{k:Nat}{q:Program}{loose:List Str}{XP:(Str->Option Value)->Heap->Prop}{YP:World->Heap->Prop}{d:DefRec}{K:Params->Frag}(hn:l.most=some 63)(hdf:d.params.defaults=[])(hr:Room k callerA)
  (hY:∀(w:World) (h:Heap),YP w h->(K w.params).In h)
  (F:∀(w:World) (mg:Str->Option Value) (fa:Addr) (h:Heap),(K w.params).In h->h.Ns mainGlobals mg->mg d.name=some (.ref fa)->
   ∃fd:FuncData,(∀(s:Shared) (u:Value),BindsTo s fd ⟨[u],[]⟩ [("_law_script",u)])/\∀base:Heap,(K w.params).In base->base.Ns mainGlobals mg->FnOk l.prog w (K w.params) mg base CX0 k fa fd ["_law_script"] (Xvz (K w.params))):
  PySem.W.WalkO q loose XP YP l.row.toRowW d [] (λf vs=>PySem.call f vs):=by
 refine Att.attach_callB hn hdf λw s₀ s₁ mg mb fa o pm cd doc a vs ns G σ ho hd hcd hmg hobj hints hlen hbits hg=>?_
 have KX:=hY w _ σ
 obtain⟨fd,hb,hF⟩:=F w mg fa _ KX G.T.g hmg
 exact Xws (CX:=CX0) (sp:=Xvz (K w.params)) KX G.T.g G.T.b G.T.builtins G.T.nolimit hg hobj hints (le_trans hlen (by decide)) hr hF hb (λH hO hS=>⟨rfl,a,ns,rfl,hS,hlen,hbits,λ_=>rfl⟩) λH e s' z=>z
theorem Yie {P:Program}{w:World}{K:Frag}{mg:Str->Option Value}{base:Heap}{st:Stmt}{f:Addr}{fd:FuncData}{N:List Str}{k:Nat}(Df:DefAt K mg "law" st f fd)(S:FnScope N ["_law_script"] (Xaf st))
  (hbody:∀(cdv:Value) (A:Around) (outer:List Env) (s:Shared) (H:Hp) (E:XK),Room k (A.deeper (envOfC "law" (Xaf st) s.heap.objs.size f cdv))->
   ∃t T,PSs (Xvd CX0 P w K mg base N "law" (Xaf st) f cdv A outer s H E).nox (Xbn st) t/\Xfn K t T/\∀ns:List Int,ns.length<=63->(∀m∈ns,ibN m<=1048576)->T {nx:=λ_=>False,rt:=λr=>r = .fz (.bl true)} (Xgg N [.lst (ns.map .int)])):FnOk P w K mg base CX0 (k+1) f fd ["_law_script"] (Xvz K):=
 Df.fn.ok S (λvs H Q E h=>h.1) λcdv A outer s H vs Q E hr h=>by
  obtain⟨_,a,ns,rfl,hS,hlen,hbits,q⟩:=h
  obtain⟨t,T,h1,h2,h3⟩:=hbody cdv A outer s H E hr
  have hr':Xb6 K H [.lst (ns.map D.int)] [.ref a]:=⟨_,_,rfl,⟨a,_,rfl,hS,Xkl.mpr rfl⟩,rfl⟩
  refine⟨t,h1,h2 H H H H (Xe0 N [.ref a]) (Xgg N [.lst (ns.map .int)]) {nx:=λ_=>False,rt:=λr=>r = .fz (.bl true)} _ ⟨_,Xj7 (Xbi.refl H) hr'⟩ ⟨λF' H' Y M e p=>p.elim,λ_ _ _ _ _ z=>z.elim,λ_ _ _ _ _ z=>z.elim,λF' H' r v x n p=>?_⟩ (h3 ns hlen hbits)⟩
  subst p
  obtain⟨A,n1,_⟩:=n
  have:v = .bl true:=n1.2
  subst this
  exact q H'
def Ylz (As:DA):DA:=λM P=>As M λds=>match ds with
 | [.lst xs]=>xs.length<=1000000/\P ((List.range xs.length).map λ(i:Nat)=>D.tup [.int i,xs.getD i .non])
 |_=>False
section
variable {X:Cx}{K:Frag}{mg:Str->Option Value}
theorem Inv.turned2 {pins:List (Addr×Obj)}{Y:St}{H:Hp}{s:Shared}{h':Heap}{t':Nat}{a1 a2:Addr}(I:Inv X pins Y H s)(k:∀b o,b≠a1->b≠a2->s.heap.get? b=some o->h'.get? b=some o)(f1:Xrp X pins H a1)(f2:Xrp X pins H a2):Inv X pins Y H {s with heap:=h',toks:=t'}:=by
 obtain⟨p0,p1,p2,p3,p4,p5⟩:=f1
 obtain⟨q0,q1,q2,q3,q4,q5⟩:=f2
 have n1:∀b u,H b=some u->b≠a1:=λb u e z=>by rw[z,p0]at e;cases e
 have n2:∀b u,H b=some u->b≠a2:=λb u e z=>by rw[z,q0]at e;cases e
 have kk:∀b o,b∉[a1,a2]->s.heap.get? b=some o->h'.get? b=some o:=λb o hc e=>k b o (λz=>hc (by simp[z])) (λz=>hc (by simp[z])) e
 refine I.step (g':=s.gens) (d':=s.drawn) (ch:=[a1,a2]) (λb hb=>?_) (λb o _ _ hc e _=>kk b o hc e) (λb o _ _ hc e _=>⟨o.slots,kk b o hc e⟩) (λ_ _ _ _ n=>n)
  (λb o hc e=>⟨o,kk b o hc e⟩) (λ_ _ e=>e) (λ_ _ _ e=>e) (λb ps e=>⟨#[],by rw[e];simp⟩) (λm hm=>?_) (λb u e=>?_) I.bare
 .have e:b=a1∨b=a2:=by simpa using hb
  rcases e with e |e
  .subst e
   exact⟨p3,p1,p4,p5⟩
  .subst e
   exact⟨q3,q1,q4,q5⟩
 .obtain ⟨o,es,ep,ho,r⟩:=hm
  exact⟨o,es,ep,k _ o (Ne.symm p1) (Ne.symm q1) ho,r⟩
 .refine (I.hok b u e).stay (λc v hc q=>k c v ?_ ?_ q) (λ_ q=>q) λ_ _ q=>q
  .rcases hc with z |z
   .rw [z];exact n1 b u e
   .exact n1 c _ z
  .rcases hc with z |z
   .rw [z];exact n2 b u e
   .exact n2 c _ z
def Ite (K:Frag)(a:Addr)(xs:List V):It:=
 ⟨λi H=>SqL K H a xs/\i<xs.length,λi H x H'=>∃p y,x = .ref p/\H p=none/\Xbi H H'/\xs[i]?=some y/\H' p=some (.tup [.int i,y]),λi H=>SqL K H a xs/\xs.length<=i⟩
theorem Xyu {P:Program}{w:World}{K:Frag}{elts:List Expr}{x1:Nat}{tpos:Pos}(a e it:Addr)(xs:List V)(hne:e≠it):
  Turn P w K (.Tuple elts x1 tpos) (Ite K a xs) [e,it] e (λi h=>∃old,IsEnum h e it (i:Nat) old/\h.IsListIter it a i) where
 mem:=by simp
 obj := λi h st b hb=>by
  obtain⟨old,h1,h2⟩:=st
  have hb':b=e∨b=it:=by simpa using hb
  rcases hb' with z |z
  .subst z
   exact⟨_,h1,λv z=>by cases z⟩
  .subst z
   obtain⟨o,q1,q2,q3⟩:=h2
   exact⟨o,q1,λv z=>by rw[q3]at z;cases z⟩
 keep:=λi h h' st k=>by
  obtain⟨old,h1,h2⟩:=st
  exact⟨old,k e (by simp) _ h1,h2.at λo q=>k it (by simp) o q⟩
 item := by
  intro X hP hw hK hc i pins s Y H E I hf st hg
  subst hP hw hK
  obtain⟨old,h1,h2⟩:=st
  obtain⟨hq,hi⟩:=hg
  obtain⟨its,rv,p,hz⟩:=I.list hq
  obtain⟨u,hu,ru⟩:=rv.get (i:=i) (x:=xs[i]) (by simp[hi])
  refine wpAny_pyNext_enum_item h1 h2 p.isList (x:=u) (by simpa using hu) hne λh' g1 g2 g3 g4 g5=>?_
  refine⟨_,rfl,wpAny_letOwnedTupleGo_enum g1 λh'' k1 k2=>?_⟩
  have hf':=I.hok.fresh (Nat.le_refl _)
  have I0:Inv X pins Y (upd H s.heap.objs.size (.tup [.int i,xs[i]])) {s with heap:=s.heap.push {cls:=.type "tuple",data:=.seq #[.int i s.toks,u]},toks:=s.toks}:=
   I.laid (t':=s.toks) (o:=.tup [.int i,xs[i]]) (λb ob q=>get?_push_of_some _ q) (Nat.le_refl _) ⟨Xdp (n:=2) (by decide),[.int i s.toks,u],.cons ⟨_,rfl⟩ (.cons ru .nil),⟨_,get?_push_size _ rfl,rfl,_,rfl⟩⟩
  have fe : ∀b∈[e,it],Xrp X pins (upd H s.heap.objs.size (.tup [.int i,xs[i]])) b:=λb hb=>by
   obtain⟨q0,q1,q2,q3,q4,q5⟩:=hf b hb
   refine⟨?_,q1,q2,q3,q4,q5⟩
   rw[Xcp]
   .exact q0
   .intro z
    have hb':b=e∨b=it:=by simpa using hb
    have hlt:b<s.heap.objs.size:=by
     rcases hb' with y |y
     .rw [y];exact lt_size h1
     .obtain ⟨o,r1,_⟩:=h2
      rw[y];exact lt_size r1
    rw[z]at hlt
    exact lt_irrefl _ hlt
  have I1 : Inv X pins Y (upd H s.heap.objs.size (.tup [.int i,xs[i]])) {s with heap:=h'',toks:=s.toks+1}:=by
   have:=I0.turned2 (h':=h'') (t':=s.toks+1) (a1:=e) (a2:=it) (λb o b1 b2 q=>?_) (fe e (by simp)) (fe it (by simp))
   .exact this
   .have hb:h'.get? b=some o:=by
     by_cases z:b=s.heap.objs.size
     .subst z
      rw[get?_push_size _ rfl]at q
      rw[<- q];exact g3
     .rw [Heap.get?_push_ne _ _ _ z]at q
      exact g5 b o b1 b2 q
    exact k2.extBut b o b1 hb
  refine⟨.ref s.heap.objs.size,_,I1,rfl,⟨_,xs[i],rfl,hf',Xbi.new hf',by simp[hi],Xa3⟩,⟨u,?_,?_⟩,λb hb=>(fe b hb).1⟩
  .have:(((i+1:Nat):Int))=(i:Int)+1:=by omega
   rw[this];exact k1
  .exact g2.extBut k2.extBut (Ne.symm hne)
 done:=by
  intro X hP hw hK hc i pins s Y H E I hf st hg
  subst hP hw hK
  obtain⟨old,h1,h2⟩:=st
  obtain⟨hq,hi⟩:=hg
  obtain⟨its,rv,p,hz⟩:=I.list hq
  have hl:=rv.length
  obtain⟨f0,f1,f2,f3,f4,f5⟩:=hf it (by simp)
  exact wpAny_pyNext_enum_end (I.ok.hd hc) h1 h2 p.isList (by simp;omega) λh' eb=>⟨rfl,I.turned (t':=s.toks) (λb o hb q=>eb b o hb q) f0 f1 f3 f4 f5⟩
 self:=λ_ _ _ _ _ st h=>by
  obtain⟨old,h1,_⟩:=st
  exact wpAny_pyIter_enum h1 h
def Yli (K:Frag)(ta:TA):TI:=λY H R=>ta Y H λvs H1=>∃a xs,vs=[.ref a]/\SqL K H1 a xs/\R (Ite K a xs) H1
theorem Yai {elts:List Expr}{x1:Nat}{tpos:Pos}{l:Expr}{ta:TA}{p pos:Pos}(hg:Gl X "enumerate")(hm:X.mg "enumerate"=none)(ha:PA X [l] ta)(hs:starEach [l] X.env=[(false,eval l X.env)]:=by rfl):PI X (.Tuple elts x1 tpos) (.Call (.Name "enumerate" p) [l] [] pos) (Yli X.K ta):=by
 intro pins s Y H R I h
 refine Call_ (Xgn I hg hm PyProof.Rows.boot_enumerate (PyProof.Rows.callWith_type1 (thn (ha pos pins s Y H _ I h) λus s1 ⟨vs,H1,I1,r1,q1⟩=>?_) hs rfl))
 obtain⟨a,xs,e,hq,q⟩:=q1
 subst e
 obtain⟨u,rfl,ru⟩:=Xhx r1
 cases ru
 obtain⟨its,rv,pt,hz⟩:=I1.list hq
 refine PySem.call_enumerate_list pt.isList λh' g1 g2 g3 g4=>?_
 have I2:Inv X pins Y H1 {s1 with heap:=h',toks:=s1.toks}:=I1.kept (t':=s1.toks) g4
 refine wpAny_pyIter_enum (s:={s1 with heap:=h',toks:=s1.toks}) g1 ?_
 refine⟨s1.heap.objs.size+1,[s1.heap.objs.size+1,s1.heap.objs.size],_,_,H1,rfl,I2,Xyu a _ _ xs (Nat.succ_ne_self _),⟨_,g1,g2⟩,λb hb=>?_,q⟩
 have hb':b=s1.heap.objs.size+1∨b=s1.heap.objs.size:=by simpa using hb
 rcases hb' with z |z
 .subst z
  exact I1.fpOk (le_succ _) (I1.hok.fresh (le_succ _))
 .subst z
  exact I1.fpOk (Nat.le_refl _) (I1.hok.fresh (Nat.le_refl _))
theorem Xzy {a:TA}{As:DA}(h:Xiy K a As):Xyj K (Yli K a) (Ylz As):=λF0 H0 F H Y M P R e w q=>h F0 H0 F H Y M _ _ e w λds vs F' H' p x r=>by
 try dsimp only at p
 split at p
 .rename_i xs
  obtain⟨v,rfl,a,us,rfl,h1,h2⟩:=Xhf r
  have hl:=h2.length
  refine⟨a,us,rfl,x.fh.seq h1,q _ _ F' H' p.2 x λF1 H1 s1 s2=>?_⟩
  have hq:=(s1.trans s2).seq h1
  rw[length_map,length_range]
  refine⟨λi hi=>⟨hq,by omega⟩,⟨hq,by omega⟩,λi x H2 hi y=>?_⟩
  obtain⟨t,y,rfl,ht,sm,hy,ht2⟩:=y
  obtain⟨d,hd,rd⟩:=h2.get' hy
  refine⟨.tup [.int i,d],upd F1 t (.tup [.int i,y]),?_,Ext.new s2 ht sm ht2,t,[.int i,y],rfl,.inl (.inl Xa3),?_⟩
  .rw [getElem?_map,getElem?_range hi]
   simp only[map_some,getD_eq_getElem?_getD,hd,getD_some]
  .exact ⟨_,_,rfl,rfl,_,_,rfl,(rd.mono s1).mono (Xbi.upd' (s2.free ht)),rfl⟩
 .exact p.elim
end
def Yl3 (E:DE):DE:=λM P=>E M λd=>match d with
 | .int i=>P (.int (ibN i))
 |_=>False
section
variable {X:Cx}{K:Frag}
def rBitL:V->List V->Hp->VK->Prop:=λx xs H Q=>∃i,x = .int i/\xs=[]/\Q (.int (ibN i)) H
theorem Yh8:MtR X "int.bit_length" rBitL:=by
 intro pins s Y H x vs v us Q I rx rv h
 obtain⟨i,rfl,rfl,q⟩:=h
 obtain⟨t,rfl⟩:=rx
 cases rv
 refine call_int_bit_length ?_
 rw[Ybg]
 exact⟨.int _,H,I.tok _,⟨_,rfl⟩,q⟩
theorem Yha {to:TE}{E:DE}(h:Xhv K to E):Xey K (Ymg K "int" rBitL to) (Yl3 E):=λF0 H0 F H Y M P Q e w q=>h F0 H0 F H Y M _ _ e w λd v F1 H1 w1 x1 r1=>by
 try dsimp only at w1
 split at w1
 .have e1:v=_:=r1
  subst e1
  exact⟨rfl,_,rfl,rfl,q _ _ F1 H1 w1 x1 rfl⟩
 .exact w1.elim
theorem Yb9:CbS K (Yj8 K) Yh9:=λF H ds vs P Q s rs w q=>by
 unfold Yh9 at w
 split at w
 .obtain ⟨ns,rfl,hn,w⟩:=w
  obtain⟨v,rfl,p,us,rfl,h1,h2⟩:=Xhf rs
  rw[Xkl]at h2
  subst h2
  exact⟨p,ns,rfl,h1,hn,λδ hM hA=>q _ _ F H (w δ hM hA) (Ext.refl s) rfl⟩
 .exact w.elim
end
section
variable {K:Frag}{mg:Str->Option Value}
end
section
variable {X:Cx}{K:Frag}
end
section
variable {X:Cx}{K:Frag}
end
def Yos (As:DA):DA:=λM P=>As M λds=>match ds with
 | [.lst xs,.lst ys]=>P ((xs.zip ys).map λp=>D.tup [p.1,p.2])
 |_=>False
section
variable {X:Cx}{K:Frag}{mg:Str->Option Value}
theorem Inv.turnedL {pins:List (Addr×Obj)}{Y:St}{H:Hp}{s:Shared}{h':Heap}{t':Nat}{L:List Addr}(I:Inv X pins Y H s)(k:∀b o,b∉L->s.heap.get? b=some o->h'.get? b=some o)(f:∀b∈L,Xrp X pins H b):Inv X pins Y H {s with heap:=h',toks:=t'}:=by
 have nn:∀b u,H b=some u->b∉L:=λb u e z=>by
  obtain⟨p0,_⟩:=f b z
  rw[p0]at e;cases e
 refine I.step (g':=s.gens) (d':=s.drawn) (ch:=L) (λb hb=>?_) (λb o _ _ hc e _=>k b o hc e) (λb o _ _ hc e _=>⟨o.slots,k b o hc e⟩) (λ_ _ _ _ n=>n)
  (λb o hc e=>⟨o,k b o hc e⟩) (λ_ _ e=>e) (λ_ _ _ e=>e) (λb ps e=>⟨#[],by rw[e];simp⟩) (λm hm=>?_) (λb u e=>?_) I.bare
 .obtain ⟨p0,p1,p2,p3,p4,p5⟩:=f b hb
  exact⟨p3,p1,p4,p5⟩
 .obtain ⟨o,es,ep,ho,r⟩:=hm
  refine⟨o,es,ep,k _ o (λz=>?_) ho,r⟩
  obtain⟨p0,p1,_⟩:=f _ z
  exact p1 rfl
 .refine (I.hok b u e).stay (λc v hc q=>k c v ?_ q) (λ_ q=>q) λ_ _ q=>q
  rcases hc with z |z
  .rw [z];exact nn b u e
  .exact nn c _ z
def Itz (K:Frag)(a1 a2:Addr)(xs ys:List V):It:=
 ⟨λi H=>SqL K H a1 xs/\SqL K H a2 ys/\i<xs.length/\i<ys.length,λi H x H'=>∃p y1 y2,x = .ref p/\H p=none/\Xbi H H'/\xs[i]?=some y1/\ys[i]?=some y2/\H' p=some (.tup [y1,y2]),λi H=>SqL K H a1 xs/\SqL K H a2 ys/\(xs.length<=i∨ys.length<=i)⟩
theorem Xin {h:Heap}{l z:Addr}{xs:Array Value}{o:Obj}(hl:h.IsList l xs)(e:h.get? z=some o)(hc:o.cls≠.type "list"):l≠z:=λq=>by
 subst q
 obtain⟨o',e1,e2,_⟩:=hl
 rw[e]at e1
 cases e1
 exact hc e2
structure Zip5 (z TI TO i1 i2:Addr):Prop where
 TIz:TI≠z
 TOz:TO≠z
 i1z:i1≠z
 i2z:i2≠z
 TITO:TI≠TO
 TIi1:TI≠i1
 TIi2:TI≠i2
 TOi1:TO≠i1
 TOi2:TO≠i2
 i12:i1≠i2
theorem Ygi (n:Nat):Zip5 (n+4) (n+2) (n+3) n (n+1):=
 ⟨λq=>by have q:(n+2:Nat)=n+4:=q;omega,λq=>by have q:(n+3:Nat)=n+4:=q;omega,λq=>by have q:(n+0:Nat)=n+4:=q;omega,λq=>by have q:(n+1:Nat)=n+4:=q;omega,λq=>by have q:(n+2:Nat)=n+3:=q;omega,λq=>by have q:(n+2:Nat)=n+0:=q;omega,λq=>by have q:(n+2:Nat)=n+1:=q;omega,λq=>by have q:(n+3:Nat)=n+0:=q;omega,λq=>by have q:(n+3:Nat)=n+1:=q;omega,λq=>by have q:(n+0:Nat)=n+1:=q;omega⟩
theorem Xrs {h:Heap}{z TI TO i1 i2 l1 l2:Addr}{xs ys:Array Value}{a b:Value}{k1 k2:Nat}{c1 c2:Addr}(D:Zip5 z TI TO i1 i2)(hz:IsZip h z TI TO .none)(hTO:IsPair h TO a b)(h1:h.IsListIter i1 c1 k1)(h2:h.IsListIter i2 c2 k2)(hl1:h.IsList l1 xs)(hl2:h.IsList l2 ys):ZipApart z TI TO i1 i2 l1 l2:=by
 obtain⟨o1,e1,q1,_⟩:=h1
 obtain⟨o2,e2,q2,_⟩:=h2
 exact⟨D.TIz,D.TOz,D.i1z,D.i2z,D.TITO,D.TIi1,D.TIi2,D.TOi1,D.TOi2,D.i12,Xin hl1 hz (by simp),Xin hl1 hTO (by simp),Xin hl1 e1 (by rw[q1];simp),Xin hl1 e2 (by rw[q2];simp),
  Xin hl2 hz (by simp),Xin hl2 hTO (by simp),Xin hl2 e1 (by rw[q1];simp),Xin hl2 e2 (by rw[q2];simp)⟩
theorem Ycm {P:Program}{w:World}{K:Frag}{elts:List Expr}{x1:Nat}{tpos:Pos}(a1 a2 z TI TO i1 i2:Addr)(xs ys:List V)(D:Zip5 z TI TO i1 i2):
  Turn P w K (.Tuple elts x1 tpos) (Itz K a1 a2 xs ys) [z,TI,TO,i1,i2] z (λi h=>IsZip h z TI TO .none/\IsPair h TI (.ref i1) (.ref i2)/\(∃a b,IsPair h TO a b)/\h.IsListIter i1 a1 i/\h.IsListIter i2 a2 i) where
 mem:=by simp
 obj:=λi h st b hb=>by
  obtain⟨h1,h2,⟨a,b',h3⟩,⟨o4,q4,_,r4⟩,⟨o5,q5,_,r5⟩⟩:=st
  have hb':b=z∨b=TI∨b=TO∨b=i1∨b=i2:=by simpa using hb
  rcases hb' with q |q |q |q |q
  .subst q;exact⟨_,h1,λv q=>by cases q⟩
  .subst q;exact⟨_,h2,λv q=>by cases q⟩
  .subst q;exact⟨_,h3,λv q=>by cases q⟩
  .subst q;exact⟨_,q4,λv q=>by rw[r4]at q;cases q⟩
  .subst q;exact⟨_,q5,λv q=>by rw[r5]at q;cases q⟩
 keep:=λi h h' st k=>by
  obtain⟨h1,h2,⟨a,b',h3⟩,h4,h5⟩:=st
  exact⟨k z (by simp) _ h1,k TI (by simp) _ h2,⟨a,b',k TO (by simp) _ h3⟩,h4.at λo q=>k i1 (by simp) o q,h5.at λo q=>k i2 (by simp) o q⟩
 item := by
  intro X hP hw hK hc i pins s Y H E I hf st hg
  subst hP hw hK
  obtain⟨h1,h2,⟨a,b',h3⟩,h4,h5⟩:=st
  obtain⟨hq1,hq2,hi1,hi2⟩:=hg
  obtain⟨its1,rv1,p1,hz1⟩:=I.list hq1
  obtain⟨its2,rv2,p2,hz2⟩:=I.list hq2
  obtain⟨u1,hu1,ru1⟩:=rv1.get (i:=i) (x:=xs[i]) (by simp[hi1])
  obtain⟨u2,hu2,ru2⟩:=rv2.get (i:=i) (x:=ys[i]) (by simp[hi2])
  refine wpAny_pyNext_zip_item (Xrs D h1 h3 h4 h5 p1.isList p2.isList) h1 h2 h3 h4 h5 p1.isList p2.isList (x:=u1) (y:=u2) (by simpa using hu1) (by simpa using hu2) λh' g1 g2 g3 g4 g5 g6 g7=>?_
  refine⟨_,rfl,wpAny_letOwnedTupleGo_zip g1 λh'' k1 k2=>?_⟩
  have hf':=I.hok.fresh (Nat.le_refl _)
  have I0:Inv X pins Y (upd H s.heap.objs.size (.tup [xs[i],ys[i]])) {s with heap:=s.heap.push {cls:=.type "tuple",data:=.seq #[u1,u2]},toks:=s.toks}:=
   I.laid (t':=s.toks) (o:=.tup [xs[i],ys[i]]) (λb ob q=>get?_push_of_some _ q) (Nat.le_refl _) ⟨Xdp (n:=2) (by decide),[u1,u2],.cons ru1 (.cons ru2 .nil),⟨_,get?_push_size _ rfl,rfl,_,rfl⟩⟩
  have old:∀b∈[z,TI,TO,i1,i2],b≠s.heap.objs.size:=λb hb q=>by
   have hb':b=z∨b=TI∨b=TO∨b=i1∨b=i2:=by simpa using hb
   have hlt:b<s.heap.objs.size:=by
    rcases hb' with y |y |y |y |y
    .rw [y];exact lt_size h1
    .rw [y];exact lt_size h2
    .rw [y];exact lt_size h3
    .obtain ⟨o,r1,_⟩:=h4
     rw[y];exact lt_size r1
    .obtain ⟨o,r1,_⟩:=h5
     rw[y];exact lt_size r1
   rw[q]at hlt
   exact lt_irrefl _ hlt
  have fe:∀b∈[z,TI,TO,i1,i2],Xrp X pins (upd H s.heap.objs.size (.tup [xs[i],ys[i]])) b:=λb hb=>by
   obtain⟨q0,q1,q2,q3,q4,q5⟩:=hf b hb
   refine⟨?_,q1,q2,q3,q4,q5⟩
   rw[Xcp]
   .exact q0
   .exact old b hb
  have I1 : Inv X pins Y (upd H s.heap.objs.size (.tup [xs[i],ys[i]])) {s with heap:=h'',toks:=s.toks}:=by
   have:=I0.turnedL (h':=h'') (t':=s.toks) (L:=[z,TO,i1,i2]) (λb o hb q=>?_) (λb hb=>fe b (by
    have hb':b=z∨b=TO∨b=i1∨b=i2:=by simpa using hb
    rcases hb' with y |y |y |y<;>simp[y]))
   .exact this
   .have bz:b≠z:=λy=>hb (by simp[y])
    have hb2:h'.get? b=some o:=by
     by_cases y:b=s.heap.objs.size
     .subst y
      rw[get?_push_size _ rfl]at q
      rw[<- q];exact g5
     .rw [Heap.get?_push_ne _ _ _ y]at q
      exact g7 b o bz (λy=>hb (by simp[y])) (λy=>hb (by simp[y])) (λy=>hb (by simp[y])) q
    exact k2.extBut b o bz hb2
  have hTI':h'.get? TI=_:=g7 TI _ D.TIz D.TITO D.TIi1 D.TIi2 h2
  refine⟨.ref s.heap.objs.size,_,I1,rfl,⟨_,xs[i],ys[i],rfl,hf',Xbi.new hf',by simp[hi1],by simp[hi2],Xa3⟩,⟨k1,k2.extBut _ _ D.TIz hTI',⟨_,_,k2.extBut _ _ D.TOz g2⟩,g3.extBut k2.extBut D.i1z,g4.extBut k2.extBut D.i2z⟩,λb hb=>(fe b hb).1⟩
 done:=by
  intro X hP hw hK hc i pins s Y H E I hf st hg
  subst hP hw hK
  obtain⟨h1,h2,⟨a,b',h3⟩,h4,h5⟩:=st
  obtain⟨hq1,hq2,hi⟩:=hg
  obtain⟨its1,rv1,p1,hz1⟩:=I.list hq1
  obtain⟨its2,rv2,p2,hz2⟩:=I.list hq2
  have hl1:=rv1.length
  have hl2:=rv2.length
  refine wpAny_pyNext_zip_end (I.ok.hd hc) (Xrs D h1 h3 h4 h5 p1.isList p2.isList) h1 h2 h3 h4 h5 p1.isList p2.isList (by
   rcases hi with q |q
   .exact .inl (by simp;omega)
   .exact .inr (by simp;omega)) λh' eb=>⟨rfl,I.turnedL (t':=s.toks) (L:=[z,TO,i1,i2]) (λb o hb q=>eb b o (λy=>hb (by simp[y])) (λy=>hb (by simp[y])) (λy=>hb (by simp[y])) (λy=>hb (by simp[y])) q) (λb hb=>hf b (by
    have hb':b=z∨b=TO∨b=i1∨b=i2:=by simpa using hb
    rcases hb' with y |y |y |y<;>simp[y]))⟩
 self:=λ_ _ _ _ _ st h=>by
  obtain⟨h1,_⟩:=st
  exact wpAny_pyIter_zip h1 h
def Yoj (K:Frag)(ta:TA):TI:=λY H R=>ta Y H λvs H1=>∃a1 a2 xs ys,vs=[.ref a1,.ref a2]/\SqL K H1 a1 xs/\SqL K H1 a2 ys/\R (Itz K a1 a2 xs ys) H1
theorem Yag {elts:List Expr}{x1:Nat}{tpos:Pos}{l m:Expr}{ta:TA}{p pos:Pos}(hg:Gl X "zip")(hm:X.mg "zip"=none)(ha:PA X [l,m] ta)(hs:starEach [l,m] X.env=(false,eval l X.env)::starEach [m] X.env:=by rfl)(hp:(backTo pos (starEach [m] X.env)).any (·.1)=false:=by rfl):PI X (.Tuple elts x1 tpos) (.Call (.Name "zip" p) [l,m] [] pos) (Yoj X.K ta):=by
 intro pins s Y H R I h
 refine Call_ (Xgn I hg hm PyProof.Rows.boot_zip (PyProof.Rows.callWith_type1 (thn (ha pos pins s Y H _ I h) λus s1 ⟨vs,H1,I1,r1,q1⟩=>?_) hs hp))
 obtain⟨a1,a2,xs,ys,e,hq1,hq2,q⟩:=q1
 subst e
 obtain⟨u1,u2,rfl,ru1,ru2⟩:=Ycl r1
 cases ru1
 cases ru2
 obtain⟨its1,rv1,pt1,hz1⟩:=I1.list hq1
 obtain⟨its2,rv2,pt2,hz2⟩:=I1.list hq2
 refine PySem.call_zip_2 pt1.isList pt2.isList λh' g1 g2 g3 g4 g5 g6 g7=>?_
 have I2:Inv X pins Y H1 {s1 with heap:=h',toks:=s1.toks}:=I1.kept (t':=s1.toks) g7
 refine wpAny_pyIter_zip (s:={s1 with heap:=h',toks:=s1.toks}) g1 ?_
 refine⟨s1.heap.objs.size+4,[s1.heap.objs.size+4,s1.heap.objs.size+2,s1.heap.objs.size+3,s1.heap.objs.size,s1.heap.objs.size+1],_,_,H1,rfl,I2,Ycm a1 a2 _ _ _ _ _ xs ys ?_,⟨g1,g2,⟨_,_,g3⟩,g4,g5⟩,λb hb=>?_,q⟩
 .exact Ygi _
 have hle:s1.heap.objs.size<=b:=by
  have hb':b=s1.heap.objs.size+4∨b=s1.heap.objs.size+2∨b=s1.heap.objs.size+3∨b=s1.heap.objs.size∨b=s1.heap.objs.size+1:=by simpa using hb
  rcases hb' with y |y |y |y |y
  .rw [y];exact le_add_right _ _
  .rw [y];exact le_add_right _ _
  .rw [y];exact le_add_right _ _
  .rw [y];exact Nat.le_refl _
  .rw [y];exact le_add_right _ _
 exact I1.fpOk hle (I1.hok.fresh hle)
theorem Xzx {a:TA}{As:DA}(h:Xiy K a As):Xyj K (Yoj K a) (Yos As):=λF0 H0 F H Y M P R e w q=>h F0 H0 F H Y M _ _ e w λds vs F' H' p x r=>by
 try dsimp only at p
 split at p
 .rename_i xs ys
  obtain⟨v1,v2,rfl,⟨a1,us1,rfl,h1,h2⟩,⟨a2,us2,rfl,k1,k2⟩⟩:=Xz4 r
  have hl1:=h2.length
  have hl2:=k2.length
  refine⟨a1,a2,us1,us2,rfl,x.fh.seq h1,x.fh.seq k1,q _ _ F' H' p x λF1 H1 s1 s2=>?_⟩
  have hq1:=(s1.trans s2).seq h1
  have hq2:=(s1.trans s2).seq k1
  have hlen:((xs.zip ys).map λp=>D.tup [p.1,p.2]).length=min xs.length ys.length:=by simp
  rw[hlen]
  refine⟨λi hi=>⟨hq1,hq2,by omega,by omega⟩,⟨hq1,hq2,by omega⟩,λi x H2 hi y=>?_⟩
  obtain⟨t,y1,y2,rfl,ht,sm,hy1,hy2,ht2⟩:=y
  obtain⟨d1,hd1,rd1⟩:=h2.get' hy1
  obtain⟨d2,hd2,rd2⟩:=k2.get' hy2
  refine⟨.tup [d1,d2],upd F1 t (.tup [y1,y2]),?_,Ext.new s2 ht sm ht2,t,[y1,y2],rfl,.inl (.inl Xa3),?_⟩
  .rw [getElem?_map,List.getElem?_zip_eq_some (z:=(d1,d2)) |>.mpr ⟨hd1,hd2⟩]
   rfl
  .exact ⟨_,_,rfl,(rd1.mono s1).mono (Xbi.upd' (s2.free ht)),_,_,rfl,(rd2.mono s1).mono (Xbi.upd' (s2.free ht)),rfl⟩
 .exact p.elim
end
def Ylt (Eo:DO)(Eb:DE):DO:=λM P=>Eo M λr=>match r with
 | .nl [.fz d]=>Eb M λy=>match y with
  | .int k=>(0<=k/\k<=1000000)/\P (.nl (List.replicate k.toNat (.fz d)))
  |_=>False
 |_=>False
section
variable {X:Cx}{K:Frag}{mg:Str->Option Value}
theorem Xb6.rep {F:Hp}{d:D}{v:V}(h:Rep K F d v):∀n:Nat,Xb6 K F (List.replicate n d) (List.replicate n v)
 | 0=>rfl
 |n+1=>⟨v,List.replicate n v,rfl,h,Xb6.rep h n⟩
theorem Xzt {ta tb:TE}{Eo:DO}{Eb:DE}(ha:Xj5 K ta Eo)(hb:Xhv K tb Eb):Xj5 K (tOp Yob ta tb) (Ylt Eo Eb):=λF0 H0 F H Y M P Q e w q=>
 ha F0 H0 F H Y M _ _ e w λr v F1 H1 w1 x1 r1=>by
  try dsimp only at w1
  split at w1
  .rename_i d
   obtain⟨A0,⟨p,vs,B,rfl,rfl,hp,hB⟩,a2,a3⟩:=r1
   obtain⟨v0,r0,B1,C,rfl,rfl,⟨_,rd⟩,hC,_⟩:=hB
   subst hC
   refine hb F0 H0 F1 H1 Y M _ _ (e.on x1) w1 λy u F2 H2 w2 x2 r2=>?_
   try dsimp only at w2
   split at w2
   .rename_i k
    obtain⟨⟨k0,k1⟩,pr⟩:=w2
    have x12:=x1.trans x2
    cases r2
    refine⟨p,k,[v0],rfl,rfl,x2.hh _ _ hp,by omega,by omega,Xdp (by simp;omega),λl l0=>?_⟩
    have ef:(List.replicate k.toNat [v0]).flatten=List.replicate k.toNat v0:=List.flatten_replicate_singleton
    rw[ef]
    have em:(List.replicate k.toNat d).map OV.fz=List.replicate k.toNat (OV.fz d):=map_replicate
    refine q _ _ F2 _ pr (x12.trans (Ext.grow x2.fh (Xbi.new l0))) ?_
    rw[<- em]
    exact Xpc.list (x12.hh.free l0) (x2.fh.free l0) Xa3 (Xb6.rep (rd.mono x2.ff) _)
   .exact w2.elim
  .exact w1.elim
end
section
variable {prog:Program}{w:World}{A:Around}{E:Value->Shared->Prop}{s:Shared}
end
section
variable {X:Cx}{K:Frag}{tg:Expr}
end
section
variable {X:Cx}{K:Frag}
theorem BlkScope.nofree {outer sc:Scope}(h1:sc.kind = .function)(h2:∀y∈sc.names,y.2≠.cell)(h3:∀y∈sc.names,y.2≠.free)(h4:∀y∈sc.names,y.2 = .local->sc.names.lookup y.1=some .local):BlkScope outer sc:=
 ⟨h1,h2,λy hy e=>absurd e (h3 y hy),h4⟩
end
section
variable {prog:Program}{w:World}{A:Around}{E:Value->Shared->Prop}{s:Shared}
theorem Xs7 {t sl:Addr}{items:Array Value}{vl vu:Value}{lo hi:Option Int}{Q:Value->Shared->Prop}(ht:IsTup s.heap t items)(hs:s.heap.IsSliceOf sl vl vu .none)(pl:IsPart vl lo)(pu:IsPart vu hi)
  (hw:HT.sIx items.size 0 lo=0/\HT.sIx items.size items.size hi=items.size) (h:Q (.ref t) s):wpAny (model prog w) A (getItem (.ref t) (.ref sl)) Q E s:=by
 obtain⟨os,hos,hcs,hds⟩:=id hs
 have hTs:s.TypeIs (.ref sl) "slice":=⟨os,hos,hcs⟩
 unfold getItem
 try with_reducible refine wpAny_holding ?_
 first |refine wpAny_bind (wpAny_pure ?_) |skip
 refine wpAny_bind (wpAny_sequenceKey ht.typeIs (by decide) ?_)
 refine wpAny_bind (wpAny_callSpecial?_slot (name:=Str.ofString "__getitem__") ht.typeIs PyProof.Rows.slot_tuple_getitem
  (wpAny_call_entry PyProof.Rows.slot_tuple_getitem ht.typeIs entry_tuple_getitem ?_ (args_tuple_getitem _ _)))
 show wpAny _ _ (Builtin.Tuple.tupleItemsOf (.ref t) >>= _) _ _ s
 refine wpAny_bind (tupleItemsOf_ ht ?_)
 refine wpAny_bind (wpAny_typeOf hTs ?_)
 rw[if_pos (by decide)]
 refine wpAny_bind (HT.sliceApplied_gen hs pl pu ?_)
 have hyes:((((HT.sIx items.size 0 lo:Nat):Int)==0 && (1:Int)==1 && (HT.sIx items.size items.size hi-HT.sIx items.size 0 lo)==items.size)=true):=by
  rw[hw.1,hw.2];simp
 show wpAny _ _ (if (((HT.sIx items.size 0 lo:Nat):Int)==0 && (1:Int)==1 && (HT.sIx items.size items.size hi-HT.sIx items.size 0 lo)==items.size)=true then _ else _) _ _ s
 rw[if_pos hyes]
 obtain⟨ob,hob,hcls,n,hdat⟩:=id ht
 refine wpAny_bind (m:=Builtin.Tuple.tupleIsExact (.ref t)) ?_
 unfold Builtin.Tuple.tupleIsExact
 refine wpAny_bind (wpAny_typeOf ht.typeIs (wpAny_pure ?_))
 rw[if_pos (show (Value.type "tuple"==Value.type "tuple")=true by decide)]
 refine wpAny_bind (wpAny_rule ?_)
 exact wpAny_pure ⟨_,rfl,wpAny_pure h⟩
end
def Yj6 (K:Frag):V->Option Int->Option Int->Hp->VK->Prop:=λx lo hi H Q=>∃a xs,x = .ref a/\SqT K H a xs/\((HT.sIx xs.length 0 lo=0/\HT.sIx xs.length xs.length hi=xs.length)->Q (.ref a) H)/\
 (¬ (HT.sIx xs.length 0 lo=0/\HT.sIx xs.length xs.length hi=xs.length)->∀p,H p=none->Q (.ref p) (upd H p (.tup (Yce xs lo hi))))
theorem Xzb {X:Cx}:SlR X (Yj6 X.K):=by
 intro pins s Y H x v vl vu lo hi sl Q I rx hs pl pu h
 obtain⟨a,xs,rfl,hx,q1,q2⟩:=h
 by_cases hw:HT.sIx xs.length 0 lo=0/\HT.sIx xs.length xs.length hi=xs.length
 .cases rx
  obtain⟨its,r,ht,hz⟩:=I.tuple hx
  have hlen:its.toArray.size=xs.length:=by rw[size_toArray];exact r.length.symm
  refine⟨"tuple",_,PyProof.Rows.slot_tuple_getitem.lookup,ht.typeIs,?_⟩
  exact Xs7 ht hs pl pu (by rw[hlen];exact hw) ⟨.ref a,H,I,rfl,q1 hw⟩
 .exact Yjr pins s Y H (.ref a) v vl vu lo hi sl Q I rx hs pl pu ⟨a,xs,rfl,hx,hw,q2 hw⟩
def Yov (Ea:DE)(L U:DPt):DE:=λM P=>Ea M λx=>L M λlo=>U M λhi=>match x with
 | .tup xs=>P (.tup (Xyk xs lo hi))
 |_=>False
theorem Xyh {xs:List D}{lo hi:Option Int}(h:HT.sIx xs.length 0 lo=0/\HT.sIx xs.length xs.length hi=xs.length):Xyk xs lo hi=xs:=by
 unfold L2.Xyk
 rw[h.1,h.2,List.drop_zero,Nat.sub_zero,take_length]
theorem Yff {K:Frag}{ta:TE}{Ea:DE}{tl tu:TO}{L U:DPt}(ha:Xey K ta Ea)(hl:Ygh K tl L)(hu:Ygh K tu U):Xey K (tSl (Yj6 K) ta tl tu) (Yov Ea L U):=λF0 H0 F H Y M P Q e w q=>
 ha F0 H0 F H Y M _ _ e w λx v F1 H1 w1 x1 r1=>hl F0 H0 F1 H1 Y M _ _ (e.on x1) w1 λlo F2 H2 w2 x2=>hu F0 H0 F2 H2 Y M _ _ ((e.on x1).on x2) w2 λhi F3 H3 w3 x3=>by
  have x13:=x1.trans (x2.trans x3)
  try dsimp only at w3
  split at w3
  .obtain ⟨p,vs,rfl,h1,h2⟩:=r1.mono (x2.ff.trans x3.ff)
   have hln:=h2.length
   refine⟨p,vs,rfl,x3.fh.seqT h1,λhw=>?_,λhw l l0=>?_⟩
   .rw [<- hln]at hw
    rw[Xyh hw]at w3
    exact q _ _ F3 H3 w3 x13 ⟨p,vs,rfl,h1,h2⟩
   .exact q _ _ _ _ w3 (x13.trans (Ext.new x3.fh l0 (Xbi.new l0) Xa3)) ⟨l,_,rfl,.inl (.inl Xa3),(h2.cut lo hi).mono (Xbi.upd' (x3.fh.free l0))⟩
  .exact w3.elim
section
variable {X:Cx}{K:Frag}{mg:Str->Option Value}
end
def dTupB (As:DA):DE:=λM P=>As M λds=>match ds with
 | [.lst xs]=>D.lfs xs=true/\P (.tup xs)
 |_=>False
def Yl1 (Ea Eb:DE):DO:=λM P=>Ea M λx=>Eb M λy=>match x,y with
 | .lst xs,.lst ys=>D.lfs xs=true/\D.lfs ys=true/\xs.length+ys.length<=1000000/\P (.nl ((xs++ys).map .fz))
 |_,_=>False
section
variable {X:Cx}{K:Frag}{mg:Str->Option Value}
def Ygg (K:Frag)(mg:Str->Option Value)(x:Str)(d:D):Prop:=∃a,mg x=some (.ref a)/\∀F,Rep K F d (.ref a)
def tGl (K:Frag)(d:D):TE:=λ_ H Q=>∀v,(∀F,Rep K F d v)->Q v H
theorem Xhi {x:Str}{d:D}{pos:Pos}(hg:Gl X x)(hm:Ygg X.K X.mg x d)(hd:(x==("__debug__":Str))=false:=by decide):PE X (.Name x pos) (tGl X.K d):=by
 intro pins s Y H Q I h
 obtain⟨a,e,r⟩:=hm
 exact Xul (v:=.ref a) hg e rfl hd pins s Y H Q I (h _ r)
theorem Xuf {d:D}:Xey K (tGl K d) (dC d):=λF0 H0 F H Y M P Q e w q=>λv r=>q d v F H w (Ext.refl e.ext.fh) (r F)
theorem Xzu {ta tb:TE}{Ea Eb:DE}(ha:Xhv K ta Ea)(hb:Xhv K tb Eb):Xj5 K (tOp (Ykd K) ta tb) (Yl1 Ea Eb):=λF0 H0 F H Y M P Q e w q=>
 ha F0 H0 F H Y M _ _ e w λx v F1 H1 w1 x1 r1=>hb F0 H0 F1 H1 Y M _ _ (e.on x1) w1 λy u F2 H2 w2 x2 r2=>by
  have x12:=x1.trans x2
  have x3:=Xfy x12.fh
  try dsimp only at w2
  split at w2
  .obtain ⟨w3,w4,w5,w6⟩:=w2
   obtain⟨p,vs,rfl,h1,h2⟩:=r1.mono x2.hh
   obtain⟨p',us,rfl,h3,h4⟩:=r2
   have l1:=h2.length
   have l2:=h4.length
   refine⟨p,p',vs,us,rfl,rfl,h1,h3,Xdp (by omega),λl H' l0 sm lk=>?_⟩
   exact q _ _ _ H' w6 (x12.trans (x3.trans (Ext.grow x3.fh sm))) (Xpc.list (x12.hh.free l0) (x3.fh.free l0) lk ((Xb6.lf x12.fh h2 w3).append (Xb6.lf x12.fh h4 w4)))
  .exact w2.elim
end
open PySem PySem.Spec PyProof.Rows PyProof.V PySem.W
section
variable {P:Program}{w:World}{H:Hp}{h:Heap}{a:Addr}{o:HO}
end
section
variable {P:Program}{w:World}{K:Frag}{mg:Str->Option Value}{base:Heap}{N:List Str}{qual:Str}{scope:Scope}{f:Addr}{cd:Value}{A:Around}{outer:List Env}{s:Shared}{H:Hp}{E:XK}
end
section
variable {X:Cx}{pins:List (Addr×Obj)}{Y:St}{H:Hp}{s:Shared}
end
section
variable {X:Cx}
end
open PySem PySem.Spec PyProof.Rows
abbrev DMo:=List OV->List D->(List OV->Prop)->Prop
def Yo4 (c:Str)(ns:List Str)(j:Nat)(E:DE):DE:=λM P=>E M λd=>match d with
 | .obj c' ns' ds=>c'=c/\ns'=ns/\∃x,ds[j]?=some x/\P x
 |_=>False
def Yhb (c:Str)(ns:List Str)(i j:Nat)(Eo:DO):DS:=λDe M=>match M[i]? with
 |some (some (.own (.ob o c' ns' ts)))=>c'=c/\ns'=ns/\j<ts.length/\Eo M λr=>De.nx (M.set i (some (.own (.ob o c ns (ts.set j r)))))
 |_=>False
def Yhd (c:Str)(ns:List Str)(i j:Nat)(Eo:DO):DS:=λDe M=>match M[i]? with
 |some (some (.own (.ob o c' ns' ts)))=>c'=c/\ns'=ns/\j=ts.length/\Eo M λr=>De.nx (M.set i (some (.own (.ob o c ns (ts++[r])))))
 |_=>False
def Yhe (c:Str)(ns:List Str)(i j:Nat)(g:Int->Int->Int)(E:DE):DS:=λDe M=>match M[i]? with
 |some (some (.own (.ob o c' ns' ts)))=>c'=c/\ns'=ns/\match ts[j]? with
  |some (.fz (.int x))=>E M λd=>match d with
   | .int y=>De.nx (M.set i (some (.own (.ob o c ns (ts.set j (.fz (.int (g x y))))))))
   |_=>False
  |_=>False
 |_=>False
def Yhf (c:Str)(ns:List Str)(i j:Nat)(Eo:DO):DS:=λDe M=>match M[i]? with
 |some (some (.own (.ob o c' ns' ts)))=>c'=c/\ns'=ns/\match ts[j]? with
  |some (.nl us)=>us.length<1000000/\Eo M λr=>De.nx (M.set i (some (.own (.ob o c ns (ts.set j (.nl (us++[r])))))))
  |_=>False
 |_=>False
def Yhc (c:Str)(ns:List Str)(i j k:Nat):DS:=λDe M=>match M[i]? with
 |some (some (.own (.ob o c' ns' ts)))=>c'=c/\ns'=ns/\∃us d,ts[j]?=some (.nl (us++[.fz d]))/\De.nx ((M.set i (some (.own (.ob o c ns (ts.set j (.nl us)))))).set k (some (.own (.fz d))))
 |_=>False
def Yg3 (c:Str)(ns:List Str)(i n:Nat)(sp:DMo)(As:DA):DS:=λDe M=>match M[i]? with
 |some (some (.own (.ob o c' ns' ts)))=>c'=c/\ns'=ns/\As M λds=>ds.length+1=n/\sp ts ds λts'=>De.nx (M.set i (some (.own (.ob o c ns ts'))))
 |_=>False
def Xqn (c:Str)(ns:List Str)(i j:Nat)(sp:DMo):DS:=λDe M=>match M[i]? with
 |some (some (.own (.ob o c' ns' ts)))=>c'=c/\ns'=ns/\∃us d,ts[j]?=some (.nl (us++[.fz d]))/\sp (ts.set j (.nl us)) [d] λts'=>De.nx (M.set i (some (.own (.ob o c ns ts'))))
 |_=>False
def Yf5 (c:Str)(ns:List Str)(n:Nat)(sp:DSp)(E:DE)(As:DA):DO:=λM P=>E M λd=>match d with
 | .obj c' ns' fs=>c'=c/\ns'=ns/\As M λds=>ds.length+1=n/\sp (.obj c ns fs::ds) λr=>r.lf=true/\P r
 |_=>False
def Ylx (c:Str)(ns:List Str)(n:Nat)(sp:DMo)(As:DA):DO:=λM P=>As M λds=>ds.length+1=n/\sp [] ds λts=>P (.ob none c ns ts)
def Xj8 (N:List Str)(c:Str)(ns:List Str)(a:Addr)(ts:List OV)(ds:List D):Dst:=some (.own (.ob (some a) c ns ts))::(ds.map (λd=>some (.own (.fz d)))++List.replicate (N.length-(ds.length+1)) none)
section
theorem Xoc {f:Str}:∀{ns:List Str} {vs:List V} {j:Nat},ns.Nodup->ns[j]?=some f->(ns.zip vs).lookup f=vs[j]?
 | [],_,_,_,h=>by simp at h
 |g::ns,[],j,_,_=>by simp
 |g::ns,v::vs,0,nd,h=>by
  simp at h
  subst h
  simp[List.lookup]
 |g :: ns,v::vs,j+1,nd,h=>by
  have h':ns[j]?=some f:=by simpa using h
  obtain⟨n1,n2⟩:=nodup_cons.mp nd
  have hne:(f==g)=false:=by
   rw[beq_eq_false_iff_ne]
   intro z
   exact n1 (by rw[<- z];exact mem_of_getElem? h')
  simp only[zip_cons_cons,List.lookup,hne,getElem?_cons_succ]
  exact Xoc n2 h'
theorem Xfm {f:Str}:∀{ns:List Str} {vs:List V},f∉ns->(ns.zip vs).lookup f=none
 | [],_,_=>by simp
 |g::ns,[],_=>by simp
 |g :: ns,v::vs,h=>by
  have hne:(f==g)=false:=by
   rw[beq_eq_false_iff_ne]
   intro z
   exact h (by rw[z];exact mem_cons_self)
  simp only[zip_cons_cons,List.lookup,hne]
  exact Xfm λz=>h (mem_cons_of_mem _ z)
theorem Xqq {f:Str}{u:V}:∀{ns:List Str} {vs:List V} {j:Nat},ns.Nodup->ns[j]?=some f->j<vs.length->Xnu f u (ns.zip vs)=ns.zip (vs.set j u)
 | [],_,_,_,h,_=>by simp at h
 |g::ns,[],j,_,_,h=>by simp at h
 |g::ns,v::vs,0,nd,h,_=>by
  simp at h
  subst h
  simp[Xnu]
 |g::ns,v::vs,j+1,nd,h,hl=>by
  have h':ns[j]?=some f:=by simpa using h
  obtain⟨n1,n2⟩:=nodup_cons.mp nd
  have hne:¬ g=f:=λz=>n1 (by rw[z];exact mem_of_getElem? h')
  simp only[zip_cons_cons,Xnu,if_neg hne,set_cons_succ]
  rw[Xqq n2 h' (by simpa using hl)]
theorem Xwa {f:Str}{u:V}:∀{ns:List Str} {vs:List V},ns.Nodup->ns[vs.length]?=some f->Xnu f u (ns.zip vs)=ns.zip (vs++[u])
 | [],_,_,h=>by simp at h
 |g::ns,[],nd,h=>by
  simp at h
  subst h
  simp[Xnu]
 |g::ns,v::vs,nd,h=>by
  have h':ns[vs.length]?=some f:=by simpa using h
  obtain⟨n1,n2⟩:=nodup_cons.mp nd
  have hne:¬ g=f:=λz=>n1 (by rw[z];exact mem_of_getElem? h')
  simp only[zip_cons_cons,Xnu,if_neg hne,cons_append]
  rw[Xwa n2 h']
theorem Yfu {A1 B0 A2 B1:List Addr}(h:(A1++(B0++A2)).Nodup)(h1:B1.Nodup)(h2:∀b∈B1,b∈B0∨b∉A1++(B0++A2)):(A1++(B1++A2)).Nodup:=by
 obtain⟨m1,m2,m3⟩:=nodup_append.mp h
 obtain⟨q1,q2,q3⟩:=nodup_append.mp m2
 refine nodup_append.mpr ⟨m1,nodup_append.mpr ⟨h1,q2,λx hx y hy z=>?_⟩,λx hx y hy z=>?_⟩
 .rcases h2 x hx with y' |y'
  .exact q3 x y' y hy z
  .exact y' (by rw[z];simp[hy])
 .rcases mem_append.mp hy with y' |y'
  .rcases h2 y y' with w |w
   .exact m3 x hx y (by simp[w]) z
   .exact w (by rw[<- z];simp[hx])
  .exact m3 x hx y (by simp[y']) z
end
structure ClsV (K:Frag) (c:Str) (ns:List Str):Prop where
 ex:∃C,nsIn K mainGlobals c=some (some (.ref C))/\Cls K C/\(∀f∈ns,Xk5 K C f)
 nd:ns.Nodup
 few:ns.length<1000
structure MetAt (K:Frag) (c m q:Str) (st:Stmt) (f:Addr) (fd:FuncData):Prop where
 fn:Fun K m q st f fd
 cl:∃C,nsIn K mainGlobals c=some (some (.ref C))/\Cls K C/\Meth K C m f
structure CalM (P:Program) (w:World) (K:Frag) (mg:Str->Option Value) (base:Heap) (c m:Str) (k:Nat) (ps:List Str) (sp:Sp):Prop where
 ex:∃C f fd,nsIn K mainGlobals c=some (some (.ref C))/\Cls K C/\Meth K C m f/\FnOk P w K mg base CX0 k f fd ps sp/\Xk6 K fd ps []
structure MakAt (K:Frag) (mg:Str->Option Value) (c:Str) (f:Addr):Prop where
 cl:∃C,nsIn K mainGlobals c=some (some (.ref C))/\Mk K C f/\mg c=some (.ref C)
structure CalK (P:Program) (w:World) (K:Frag) (mg:Str->Option Value) (base:Heap) (c:Str) (k:Nat) (ps:List Str) (sp:Sp):Prop where
 ex:∃C f fd,nsIn K mainGlobals c=some (some (.ref C))/\Mk K C f/\mg c=some (.ref C)/\FnOk P w K mg base CX0 k f fd ps sp/\Xk6 K fd ps []
def Xm8 (K:Frag)(c m:Str)(sp:Sp)(ta:TE)(t:TA):TE:=λY H Q=>∃C,nsIn K mainGlobals c=some (some (.ref C))/\Ygn C m sp [] E0 ta t Y H Q
def Ye0 (K:Frag)(c:Str)(sp:Sp)(t:TA):TE:=λY H Q=>∃C,nsIn K mainGlobals c=some (some (.ref C))/\Yjn C sp [] E0 t Y H Q
section
variable {X:Cx}{c m:Str}{k:Nat}{ps:List Str}{sp:Sp}{o e:Expr}{es:List Expr}{ta:TE}{t:TA}{p pos apos:Pos}
theorem Xfl {pl:Sem Bool}(C:CalM X.prog X.w X.K X.mg X.base c m k ps sp)(hr:Room k X.A)(he:PE X o ta)(ha:PA X (e::es) t)
  (hst:starEach (e::es) X.env=(false,eval e X.env)::starEach es X.env:=by rfl) (hpl:(backTo pos (starEach es X.env)).any (·.1)=false:=by rfl)
  (ht:eval (.Call (.Attribute o m apos) (e::es) [] pos) X.env=(do
   let ov <- eval o X.env
   standAt apos.atName
   let (f,first) <- holding [ov] (getMethod ov m pl)
   callWith pos f first (backTo pos (starEach (e::es) X.env)) (backToKw pos (keywordEach [] X.env))):=by rfl):
  PE X (.Call (.Attribute o m apos) (e::es) [] pos) (Xm8 X.K c m sp ta t):=by
 intro pins s Y H Q I ⟨C',hC',h⟩
 obtain⟨C,f,fd,hC,cl,hm,F,hb⟩:=C.ex
 rw[hC]at hC'
 cases hC'
 exact Yho (pl:=pl) he cl hm F hr hb .nil Xxu ha hst hpl ht pins s Y H Q I h
theorem Xc0 {pl:Sem Bool}(C:CalM X.prog X.w X.K X.mg X.base c m k ps sp)(hr:Room k X.A)(he:PE X o ta)
  (ht:eval (.Call (.Attribute o m apos) [] [] pos) X.env=(do
   let ov <- eval o X.env
   standAt apos.atName
   let (f,first) <- holding [ov] (getMethod ov m pl)
   callWith pos f first (backTo pos (starEach [] X.env)) (backToKw pos (keywordEach [] X.env))):=by rfl):
  PE X (.Call (.Attribute o m apos) [] [] pos) (Xm8 X.K c m sp ta Xvq):=by
 intro pins s Y H Q I ⟨C',hC',h⟩
 obtain⟨C,f,fd,hC,cl,hm,F,hb⟩:=C.ex
 rw[hC]at hC'
 cases hC'
 exact Ydr (pl:=pl) he cl hm F hr hb .nil Xxu (ht:=ht) pins s Y H Q I h
theorem Xuk (C:CalK X.prog X.w X.K X.mg X.base c k ps sp)(hr:Room (k+1) X.A)(hg:Gl X c)(ha:PA X (e::es) t)
  (hdb:(c==("__debug__":Str))=false:=by decide) (he:starEach (e::es) X.env=(false,eval e X.env)::starEach es X.env:=by rfl) (hpl:(backTo pos (starEach es X.env)).any (·.1)=false:=by rfl):
  PE X (.Call (.Name c p) (e::es) [] pos) (Ye0 X.K c sp t):=by
 intro pins s Y H Q I ⟨C',hC',h⟩
 obtain⟨C,f,fd,hC,δ,hm,F,hb⟩:=C.ex
 rw[hC]at hC'
 cases hC'
 exact Yhp δ F hr hg hm hb .nil Xxu ha hdb he hpl pins s Y H Q I h
end
section
variable {K:Frag}{c f m:Str}{ns:List Str}{i j:Nat}{ta te:TE}{E:DE}{Eo:DO}
theorem Xc9 (CV:ClsV K c ns)(hf:ns[j]?=some f)(h:Xhv K ta E):Xhv K (Ygo K ta f) (Yo4 c ns j E):=λF0 H0 F H Y M P Q e w q=>h F0 H0 F H Y M _ _ e w λd v F1 H1 w1 x1 r1=>by
 try dsimp only at w1
 split at w1
 .rename_i c' ns' ds
  obtain⟨rfl,rfl,x,hx,w1⟩:=w1
  obtain⟨a,C,dx,vs,rfl,h0,h1,hl,h2⟩:=r1
  obtain⟨C',hC',cl,na⟩:=CV.ex
  rw[h0]at hC'
  cases hC'
  obtain⟨u,hu,ru⟩:=h2.get hx
  exact⟨a,C,dx,_,u,rfl,h1,cl,na f (mem_of_getElem? hf),by rw[Xoc CV.nd hf];exact hu,q _ _ F1 H1 w1 x1 ru⟩
 .exact w1.elim
theorem ER.obj {F0 H0 F H H':Hp}{Y:St}{M:Dst}{A:Nat->List Addr}(e:ER K F0 H0 F H Y M A){a dx C:Addr}{B B':List Addr}{o:Option Addr}{ts':List OV}{vs':List V}(hv:Y[i]?=some (some (.ref a)))(eA:A i=a::dx::B)
  (h0:nsIn K mainGlobals c=some (some (.ref C))) (ho:∀a',o=some a'->a=a') (h1:H' a=some (.ins C dx (ns.zip vs'))) (h2:H' dx=some (.own a)) (hl:ts'.length<=ns.length) (h3:Xa6 K F H' ts' vs' B') (nd:B'.Nodup)
  (hB:∀b∈B',b∈B∨(F b=none/\H0 b=none/\∀j,b∉A j)) (keep:∀b o,b∉A i->H b=some o->H' b=some o):Xfo K F0 H0 F H' Y (M.set i (some (.own (.ob o c ns ts')))):=by
 have hnd:=e.nod i
 rw[eA]at hnd
 obtain⟨n1,n2⟩:=nodup_cons.mp hnd
 obtain⟨n3,n4⟩:=nodup_cons.mp n2
 have inA:∀b,b∈a::dx::B'->b∈A i∨(F b=none/\H0 b=none/\∀j,b∉A j):=λb hb=>by
  rw[eA]
  rcases mem_cons.mp hb with z |z
  .exact .inl (by simp[z])
  .rcases mem_cons.mp z with z |z
   .exact .inl (by simp[z])
   .rcases hB b z with y |y
    .exact .inl (by simp[y])
    .exact .inr y
 have notB:∀b,b∈A i->b∉B->b∉B':=λb hb hn z=>by
  rcases hB b z with y |y
  .exact hn y
  .exact y.2.2 i hb
 refine e.change i hv (t':=.ob o c ns ts') (B:=a::dx::B') ⟨a,C,dx,vs',B',rfl,rfl,h0,ho,h1,h2,hl,h3⟩ ?_ ?_ ?_ keep
 .refine nodup_cons.mpr ⟨λz=>?_,nodup_cons.mpr ⟨λz=>?_,nd⟩⟩
  .rcases mem_cons.mp z with z |z
   .exact n1 (by simp[z])
   .exact notB a (by simp[eA]) (λy=>n1 (by simp[y])) z
  .exact notB dx (by simp[eA]) n3 z
 .intro b hb
  rcases inA b hb with z |z
  .exact ⟨(e.new i b z).1,(e.new i b z).2.1⟩
  .exact ⟨z.1,z.2.1⟩
 .intro j hj b hb z
  rcases inA b hb with y |y
  .exact e.dis j i b hj z y
  .exact y.2.2 j z
theorem Xud (CV:ClsV K c ns)(hf:ns[j]?=some f)(h:Xj5 K te Eo):Xfn K (Ymw K (Xm7 i) te f) (Yhb c ns i j Eo):=λF0 H0 F H Y M De En e l w=>by
 obtain⟨A,e⟩:=e
 unfold Yhb at w
 split at w
 .rename_i o c' ns' ts hs
  obtain⟨rfl,rfl,hj,w⟩:=w
  obtain⟨v,hv,a,C,dx,vs,B,rfl,eA,h0,ho,h1,h2,hl,h3⟩:=e.own i _ hs
  obtain⟨C',hC',cl,na⟩:=CV.ex
  rw[h0]at hC'
  cases hC'
  refine h F0 H0 F H Y M _ _ ⟨A,e⟩ w λr u F1 H1 p x1 n=>?_
  obtain⟨C0,c1,c2,c3⟩:=n
  have e1:=e.on x1
  have hlen:=h3.length
  refine⟨_,hv,a,C,dx,_,rfl,x1.hh _ _ h1,cl,na f (mem_of_getElem? hf),?_,?_⟩
  .have:=CV.few
   rw[length_zip];omega
  rw[Xqq CV.nd hf (by omega)]
  have h31:Xa6 K F1 H1 ts vs B:=h3.frame x1.ff λb _ xs z=>x1.hh _ _ z
  obtain⟨v0,A1,B0,A2,f1,rfl,f3,f4⟩:=h31.focus (getElem?_eq_getElem hj)
  have hnd:=e.nod i
  rw[eA]at hnd
  obtain⟨n1,n2⟩:=nodup_cons.mp hnd
  obtain⟨n3,n4⟩:=nodup_cons.mp n2
  have hCA':∀j b,b∈C0->b∉A j:=λj b hb z=>by
   obtain⟨_,_,xs,q,_⟩:=e.new j b z
   rw[(c3 b hb).1]at q;cases q
  have hCA:=hCA' i
  have off:∀b,b∈A1++(B0++A2)->b≠a:=λb hb z=>n1 (by rw[<- z];exact mem_cons_of_mem _ hb)
  have sub:∀b,b∈A1++A2->b∈A1++(B0++A2):=λb hb=>by
   rcases mem_append.mp hb with z |z<;>simp[z]
  have f4':=f4 F1 (upd H1 a (.ins C dx (ns'.zip (vs.set j u)))) r u C0 (Xbi.refl _) (λb hb xs z=>Xaz (off b (sub b hb)) z) (c1.frame (Xbi.refl _) λb hb xs z=>Xaz (λy=>hCA b hb (by rw[eA,y];simp)) z)
  refine l.nx F1 _ Y _ (e1.obj hv eA h0 ho Xa3 (Xaz (λz=>n1 (by rw[<- z];simp)) (x1.hh _ _ h2)) (by rw[length_set];exact hl) f4' (Yfu n4 c2 λb hb=>.inr λz=>hCA b hb (by rw[eA];simp only[mem_cons];exact .inr (.inr z))) (λb hb=>?_) λb o' hb z=>Xaz (λy=>hb (by rw[eA,y];simp)) z) p
  rcases mem_append.mp hb with z |z
  .exact .inl (by simp[z])
  .rcases mem_append.mp z with z |z
   .exact .inr ⟨(c3 b z).2,e.ext.hh.free (c3 b z).1,λj=>hCA' j b z⟩
   .exact .inl (by simp[z])
 .exact w.elim
theorem Xie (CV:ClsV K c ns)(hf:ns[j]?=some f)(h:Xj5 K te Eo):Xfn K (Ymw K (Xm7 i) te f) (Yhd c ns i j Eo):=λF0 H0 F H Y M De En e l w=>by
 obtain⟨A,e⟩:=e
 unfold Yhd at w
 split at w
 .rename_i o c' ns' ts hs
  obtain⟨rfl,rfl,hj,w⟩:=w
  obtain⟨v,hv,a,C,dx,vs,B,rfl,eA,h0,ho,h1,h2,hl,h3⟩:=e.own i _ hs
  obtain⟨C',hC',cl,na⟩:=CV.ex
  rw[h0]at hC'
  cases hC'
  refine h F0 H0 F H Y M _ _ ⟨A,e⟩ w λr u F1 H1 p x1 n=>?_
  obtain⟨C0,c1,c2,c3⟩:=n
  have e1:=e.on x1
  have hlen:=h3.length
  refine⟨_,hv,a,C,dx,_,rfl,x1.hh _ _ h1,cl,na f (mem_of_getElem? hf),?_,?_⟩
  .have:=CV.few
   rw[length_zip];omega
  have hf':=hf
  rw[hj,hlen]at hf'
  rw[Xwa CV.nd hf']
  have h31:Xa6 K F1 H1 ts vs B:=h3.frame x1.ff λb _ xs z=>x1.hh _ _ z
  have hnd:=e.nod i
  rw[eA]at hnd
  obtain⟨n1,n2⟩:=nodup_cons.mp hnd
  obtain⟨n3,n4⟩:=nodup_cons.mp n2
  have hCA':∀j b,b∈C0->b∉A j:=λj b hb z=>by
   obtain⟨_,_,xs,q,_⟩:=e.new j b z
   rw[(c3 b hb).1]at q;cases q
  have hCA:=hCA' i
  have off:∀b,b∈B->b≠a:=λb hb z=>n1 (by rw[<- z];exact mem_cons_of_mem _ hb)
  have hlt:=(List.getElem?_eq_some_iff.mp hf').1
  have f4':Xa6 K F1 (upd H1 a (.ins C dx (ns'.zip (vs++[u])))) (ts++[r]) (vs++[u]) (B++C0):=Xa6.append (h31.frame (Xbi.refl _) λb hb xs z=>Xaz (off b hb) z) (Xa6.one (c1.frame (Xbi.refl _) λb hb xs z=>Xaz (λy=>hCA b hb (by rw[eA,y];simp)) z))
  refine l.nx F1 _ Y _ (e1.obj hv eA h0 ho Xa3 (Xaz (λz=>n1 (by rw[<- z];simp)) (x1.hh _ _ h2)) (by rw[length_append,length_singleton];omega) f4' (nodup_append.mpr ⟨n4,c2,λx hx y hy z=>hCA y hy (by rw[eA,<- z];simp[hx])⟩) (λb hb=>?_) λb o' hb z=>Xaz (λy=>hb (by rw[eA,y];simp)) z) p
  rcases mem_append.mp hb with z |z
  .exact .inl z
  .exact .inr ⟨(c3 b z).2,e.ext.hh.free (c3 b z).1,λj=>hCA' j b z⟩
 .exact w.elim
theorem Xzp {g:Int->Int->Int}{rd:V->V->Hp->VK->Prop}(CV:ClsV K c ns)(hf:ns[j]?=some f)(hrd:∀x y H Q,Q (.int (g x y)) H->rd (.int x) (.int y) H Q)(h:Xhv K te E):Xfn K (Xzz K (Xm7 i) te rd f) (Yhe c ns i j g E):=λF0 H0 F H Y M De En e l w=>by
 obtain⟨A,e⟩:=e
 unfold Yhe at w
 split at w
 .rename_i o c' ns' ts hs
  obtain⟨rfl,rfl,w⟩:=w
  obtain⟨x,hx,w⟩:∃x,ts[j]?=some (.fz (.int x))/\E M λd=>match d with
   | .int y=>De.nx (M.set i (some (.own (.ob o c' ns' (ts.set j (.fz (.int (g x y))))))))
   |_=>False:=by
   split at w
   .exact ⟨_,by assumption,w⟩
   .exact w.elim
  obtain⟨v,hv,a,C,dx,vs,B,rfl,eA,h0,ho,h1,h2,hl,h3⟩:=e.own i _ hs
  obtain⟨C',hC',cl,na⟩:=CV.ex
  rw[h0]at hC'
  cases hC'
  have hlen:=h3.length
  obtain⟨v0,A1,B0,A2,f1,eB,⟨f3,f3'⟩,f4⟩:=h3.focus hx
  subst f3
  cases (show v0=V.int x from f3')
  refine⟨_,hv,a,C,dx,_,_,rfl,h1,cl,na f (mem_of_getElem? hf),(by rw[Xoc CV.nd hf];exact f1),?_⟩
  refine h F0 H0 F H Y M _ _ ⟨A,e⟩ w λd u F1 H1 p x1 ru=>?_
  try dsimp only at p
  split at p
  .rename_i y
   cases (show u=V.int y from ru)
   have e1:=e.on x1
   refine hrd _ _ _ _ ⟨dx,_,x1.hh _ _ h1,?_,?_⟩
   .have:=CV.few
    rw[length_zip];omega
   rw[Xqq CV.nd hf (List.getElem?_eq_some_iff.mp f1).1]
   have hnd:=e.nod i
   rw[eA]at hnd
   obtain⟨n1,n2⟩:=nodup_cons.mp hnd
   obtain⟨n3,n4⟩:=nodup_cons.mp n2
   subst eB
   have f4':=f4 F1 (upd H1 a (.ins C dx (ns'.zip (vs.set j (.int (g x y)))))) (.fz (.int (g x y))) (.int (g x y)) [] x1.ff (λb hb xs z=>Xaz (λq=>n1 (by rw[<- q];exact mem_cons_of_mem _ (by simpa using hb))) (x1.hh _ _ z)) ⟨rfl,rfl⟩
   exact l.nx F1 _ Y _ (e1.obj hv eA h0 ho Xa3 (Xaz (λz=>n1 (by rw[<- z];simp)) (x1.hh _ _ h2)) (by rw[length_set];exact hl) f4' n4 (λb hb=>.inl hb) λb o' hb z=>Xaz (λy=>hb (by rw[eA,y];simp)) z) p
  .exact p.elim
 .exact w.elim
theorem Xli (CV:ClsV K c ns)(hf:ns[j]?=some f)(h:Xj5 K te Eo):Xfn K (Xov (tBM K "list" rAppend (Ygo K (Xm7 i) f) (Xla te Xvq))) (Yhf c ns i j Eo):=λF0 H0 F H Y M De En e l w=>by
 obtain⟨A,e⟩:=e
 unfold Yhf at w
 split at w
 .rename_i o c' ns' ts hs
  obtain⟨rfl,rfl,w⟩:=w
  obtain⟨us,hx,hus,w⟩:∃us,ts[j]?=some (.nl us)/\us.length<1000000/\Eo M λr=>De.nx (M.set i (some (.own (.ob o c' ns' (ts.set j (.nl (us++[r]))))))):=by
   split at w
   .exact ⟨_,by assumption,w⟩
   .exact w.elim
  obtain⟨v,hv,a,C,dx,vs,B,rfl,eA,h0,ho,h1,h2,hl,h3⟩:=e.own i _ hs
  obtain⟨C',hC',cl,na⟩:=CV.ex
  rw[h0]at hC'
  cases hC'
  obtain⟨v0,A1,B0,A2,f1,rfl,f3,f4⟩:=h3.focus hx
  obtain⟨b0,ws,B1,rfl,rfl,hc,hws⟩:=f3
  refine⟨_,hv,a,C,dx,_,.ref b0,rfl,h1,cl,na f (mem_of_getElem? hf),(by rw[Xoc CV.nd hf];exact f1),.inl ⟨rfl,_,SqL.of hc⟩,?_⟩
  refine h F0 H0 F H Y M _ _ ⟨A,e⟩ w λr u F1 H1 p x1 n=>?_
  obtain⟨C0,c1,c2,c3⟩:=n
  have e1:=e.on x1
  have hwl:=hws.length
  refine⟨b0,ws,u,rfl,rfl,x1.hh _ _ hc,Xy0 (by omega),?_⟩
  have hnd:=e.nod i
  rw[eA]at hnd
  obtain⟨n1,n2⟩:=nodup_cons.mp hnd
  obtain⟨n3,n4⟩:=nodup_cons.mp n2
  have hCA':∀j b,b∈C0->b∉A j:=λj b hb z=>by
   obtain⟨_,_,xs,q,_⟩:=e.new j b z
   rw[(c3 b hb).1]at q;cases q
  have hbA:b0∈A i:=by rw[eA];simp
  obtain⟨m1,m2,m3⟩:=nodup_append.mp n4
  obtain⟨q1,q2,q3⟩:=nodup_append.mp m2
  obtain⟨s1,s2⟩:=nodup_cons.mp q1
  have off:∀b∈A1++A2,b≠b0:=λb hb z=>by
   subst z
   rcases mem_append.mp hb with y |y
   .exact m3 b y b (by simp) rfl
   .exact q3 b (by simp) b y rfl
  have hab:a≠b0:=λz=>n1 (by rw[z];simp)
  have hdb:dx≠b0:=λz=>n3 (by rw[z];simp)
  have f4':=f4 F1 (upd H1 b0 (.lst (ws++[u]))) (.nl (us++[r])) (.ref b0) (b0::(B1++C0)) x1.ff (λb hb xs z=>Xaz (off b hb) (x1.hh _ _ z))
   ⟨b0,ws++[u],B1++C0,rfl,rfl,Xa3,Xa6.append (hws.frame x1.ff λb hb xs z=>Xaz (λy=>s1 (by rw[<- y];exact hb)) (x1.hh _ _ z)) (Xa6.one (c1.frame (Xbi.refl _) λb hb xs z=>Xaz (λy=>hCA' i b hb (by rw[y];exact hbA)) z))⟩
  rw[Xd9 f1]at f4'
  refine l.nx F1 _ Y _ (e1.obj hv eA h0 ho (Xaz hab (x1.hh _ _ h1)) (Xaz hdb (x1.hh _ _ h2)) (by rw[length_set];exact hl) f4' (Yfu n4 ?_ λb hb=>?_) (λb hb=>?_) λb o' hb z=>Xaz (λy=>hb (by rw[y];exact hbA)) z) p
  .refine nodup_cons.mpr ⟨λz=>?_,nodup_append.mpr ⟨s2,c2,λx hx y hy z=>hCA' i y hy (by rw[eA,<- z];simp[hx])⟩⟩
   rcases mem_append.mp z with y |y
   .exact s1 y
   .exact hCA' i b0 y hbA
  .rcases mem_cons.mp hb with y |y
   .exact .inl (by simp[y])
   .rcases mem_append.mp y with y |y
    .exact .inl (by simp[y])
    .exact .inr λz=>hCA' i b y (by rw[eA];simp only[mem_cons];exact .inr (.inr z))
  .simp only[mem_append,mem_cons]at hb
   rcases hb with z | (z |z |z) |z
   .exact .inl (by simp[z])
   .exact .inl (by simp[z])
   .exact .inl (by simp[z])
   .exact .inr ⟨(c3 b z).2,e.ext.hh.free (c3 b z).1,λj=>hCA' j b z⟩
   .exact .inl (by simp[z])
 .exact w.elim
theorem ER.fpop {F0 H0 F H:Hp}{Y:St}{M:Dst}{A:Nat->List Addr}{o:Option Addr}{ts us:List OV}{d:D}(e:ER K F0 H0 F H Y M A)(CV:ClsV K c ns)(hf:ns[j]?=some f)(hs:M[i]?=some (some (.own (.ob o c ns ts))))(hx:ts[j]?=some (.nl (us++[.fz d]))):
  ∃a b0 ws y C dx fs,Y[i]?=some (some (.ref a))/\H a=some (.ins C dx fs)/\nsIn K mainGlobals c=some (some (.ref C))/\Cls K C/\Xk5 K C f/\fs.lookup f=some (.ref b0)/\H b0=some (.lst ws)/\ws[ws.length-1]?=some y/\Rep K F d y/\(upd H b0 (.lst ws.dropLast)) a=some (.ins C dx fs)/\
   Xfo K F0 H0 F (upd H b0 (.lst ws.dropLast)) Y (M.set i (some (.own (.ob o c ns (ts.set j (.nl us)))))):=by
 obtain⟨v,hv,a,C,dx,vs,B,rfl,eA,h0,ho,h1,h2,hl,h3⟩:=e.own i _ hs
 obtain⟨C',hC',cl,na⟩:=CV.ex
 rw[h0]at hC'
 cases hC'
 obtain⟨v0,A1,B0,A2,f1,rfl,f3,f4⟩:=h3.focus hx
 obtain⟨b0,ws,B1,rfl,rfl,hc,hws⟩:=f3
 obtain⟨ws1,y,rfl,B2,hw1,hwy,eB⟩:∃ws1 y,ws=ws1++[y]/\∃B2,Xa6 K F H us ws1 B2/\Rep K F d y/\B1=B2:=by
  clear f4 h3 hx eA hc f1
  induction us generalizing ws B1 with
  |nil=>
   obtain⟨v,r,B,C,rfl,rfl,g1,g2,g3⟩:=hws
   subst g2 g3
   exact⟨[],v,rfl,[],⟨rfl,rfl⟩,g1.2,by rw[g1.1];rfl⟩
  |cons t us ih=>
   obtain⟨v,r,B,C,rfl,rfl,g1,g2⟩:=hws
   obtain⟨ws1,y,rfl,B2,k1,k2,rfl⟩:=ih _ _ g2
   exact⟨v::ws1,y,rfl,B++C,⟨v,ws1,B,C,rfl,rfl,g1,k1⟩,k2,rfl⟩
 subst eB
 have hnd:=e.nod i
 rw[eA]at hnd
 obtain⟨n1,n2⟩:=nodup_cons.mp hnd
 obtain⟨n3,n4⟩:=nodup_cons.mp n2
 have hbA:b0∈A i:=by rw[eA];simp
 obtain⟨m1,m2,m3⟩:=nodup_append.mp n4
 obtain⟨q1,q2,q3⟩:=nodup_append.mp m2
 obtain⟨s1,s2⟩:=nodup_cons.mp q1
 have off:∀b∈A1++A2,b≠b0:=λb hb z=>by
  subst z
  rcases mem_append.mp hb with y |y
  .exact m3 b y b (by simp) rfl
  .exact q3 b (by simp) b y rfl
 have hab:a≠b0:=λz=>n1 (by rw[z];simp)
 have hdb:dx≠b0:=λz=>n3 (by rw[z];simp)
 have edl:(ws1++[y]).dropLast=ws1:=by simp
 have f4':=f4 F (upd H b0 (.lst (ws1++[y]).dropLast)) (.nl us) (.ref b0) (b0::B1) (Xbi.refl _) (λb hb xs z=>Xaz (off b hb) z) ⟨b0,(ws1++[y]).dropLast,B1,rfl,rfl,Xa3,by
  rw[edl]
  exact hw1.frame (Xbi.refl _) λb hb xs z=>Xaz (λy=>s1 (by rw[<- y];exact hb)) z⟩
 rw[Xd9 f1]at f4'
 refine⟨a,b0,ws1++[y],y,C,dx,_,hv,h1,h0,cl,na f (mem_of_getElem? hf),(by rw[Xoc CV.nd hf];exact f1),hc,by simp,hwy,Xaz hab h1,?_⟩
 exact e.obj hv eA h0 ho (Xaz hab h1) (Xaz hdb h2) (by rw[length_set];exact hl) f4' n4 (λb hb=>.inl hb) λb o' hb z=>Xaz (λy=>hb (by rw[y];exact hbA)) z
theorem Yg0 {k:Nat}(CV:ClsV K c ns)(hf:ns[j]?=some f):Xfn K (Ycr (Ymg K "list" rPop (Ygo K (Xm7 i) f)) (Xu5 k)) (Yhc c ns i j k):=λF0 H0 F H Y M De En e l w=>by
 obtain⟨A,e⟩:=e
 unfold Yhc at w
 split at w
 .rename_i o c' ns' ts hs
  obtain⟨rfl,rfl,us,d,hx,w⟩:=w
  obtain⟨a,b0,ws,y,C,dx,fs,hv,h1,h0,cl,na,hl,hc,hy,ry,_,e'⟩:=e.fpop CV hf hs hx
  refine⟨_,hv,a,C,dx,fs,.ref b0,rfl,h1,cl,na,hl,.inl ⟨rfl,_,SqL.of hc⟩,b0,ws,y,rfl,rfl,hc,hy,?_⟩
  exact l.nx F _ _ _ (e'.put (Ext.refl e'.ext.fh) k (.fz ry)) w
 .exact w.elim
def spM (K:Frag)(n:Nat)(c:Str)(ns:List Str)(sp:DMo):Sp:=spL n λvs H Q=>∃F a C dx ts vs0 B Xht ds P,vs=V.ref a::Xht/\nsIn K mainGlobals c=some (some (.ref C))/\Xbi F H/\H a=some (.ins C dx (ns.zip vs0))/\H dx=some (.own a)/\ts.length<=ns.length/\Xa6 K F H ts vs0 B/\
 (a::dx::B).Nodup/\(∀b∈a::dx::B,F b=none)/\Xb6 K F ds Xht/\sp ts ds P/\
 ∀ts' F' H' dx' vs' B',P ts'->Xbi F F'->Xbi F' H'->(∀b o,b∉a::dx::B->H b=some o->H' b=some o)->(∀b o,F b=none->H b=some o->imm o=false->b∉a::dx::B->F' b=none)->H' a=some (.ins C dx' (ns.zip vs'))->H' dx'=some (.own a)->ts'.length<=ns.length->Xa6 K F' H' ts' vs' B'->
  (a::dx'::B').Nodup->(∀b∈a::dx'::B',F' b=none/\(b∈a::dx::B∨H b=none))->Q .non H'
theorem Ye3 {F0 H0 F H:Hp}{Y:St}{M:Dst}{De:DEnds}{En:Ends}{n:Nat}{sp:DMo}{o:Option Addr}{ts:List OV}{ds:List D}{us:List V}{p:Addr}(e:Xfo K F0 H0 F H Y M)(hs:M[i]?=some (some (.own (.ob o c ns ts))))(hσ:Y[i]?=some (some (.ref p)))(l:Lk K F0 H0 De En)(hn:ds.length+1=n)
  (r:Xb6 K F ds us) (hsp:sp ts ds λts'=>De.nx (M.set i (some (.own (.ob o c ns ts'))))):spM K n c ns sp (.ref p::us) H (λ_ H2=>En.nx Y H2) E0:=by
 obtain⟨A,e⟩:=e
 obtain⟨v,hv,a,C,dx,vs,B,rfl,eA,h0,ho,h1,h2,hl,h3⟩:=e.own i _ hs
 rw[hσ]at hv
 cases hv
 have hnd:=e.nod i
 rw[eA]at hnd
 have hlt:i<M.length:=(List.getElem?_eq_some_iff.mp hs).1
 refine⟨by rw[length_cons,<- r.length];exact hn,F,p,C,dx,ts,vs,B,us,ds,_,rfl,h0,e.ext.fh,h1,h2,hl,h3,hnd,λb hb=>(e.new i b (by rw[eA];exact hb)).1,r,hsp,?_⟩
 intro ts' F' H' dx' vs' B' pt sF sH keep nofz hp' hd' hl' hB' nd' nw'
 refine l.nx F' H' Y _ ⟨λj=>if j=i then p::dx'::B' else A j,?_⟩ pt
 refine⟨by simp[e.len],⟨e.ext.ff.trans sF,λb o h=>?_,sH,λb o h1 h2 h3=>?_⟩,λj t hj=>?_,λj d hj=>?_,λj=>?_,λj k b hjk h1 h2=>?_,λj b hb=>?_⟩
 .exact keep b o (λz=>by rw[(e.new i b (by rw[eA];exact z)).2.1]at h;cases h) (e.ext.hh _ _ h)
 .exact nofz b o (e.ext.no b o h1 h2 h3) (e.ext.hh _ _ h2) h3 (λz=>by rw[(e.new i b (by rw[eA];exact z)).2.1]at h2;cases h2)
 .try dsimp only
  by_cases z:j=i
  .subst z
   rw[if_pos rfl]
   rw[getElem?_set_self hlt]at hj
   cases hj
   exact⟨_,hσ,p,C,dx',vs',B',rfl,rfl,h0,ho,hp',hd',hl',hB'⟩
  .rw [if_neg z]
   rw[getElem?_set_ne (Ne.symm z)]at hj
   obtain⟨u,h1,h2⟩:=e.own j t hj
   exact⟨u,h1,h2.frame sF λb hb xs q=>keep b _ (λy=>e.dis j i b z hb (by rw[eA];exact y)) q⟩
 .by_cases z:j=i
  .subst z
   rw[getElem?_set_self hlt]at hj
   cases hj
  .rw [getElem?_set_ne (Ne.symm z)]at hj
   exact e.bw j d hj
 .try dsimp only
  split
  .exact nd'
  .exact e.nod j
 .try dsimp only at h1 h2
  have key:∀k,k≠i->b∈p::dx'::B'->b∈A k->False:=λk hk z1 z2=>by
   rcases (nw' b z1).2 with y |y
   .exact e.dis k i b hk z2 (by rw[eA];exact y)
   .obtain ⟨_,_,xs,q,_⟩:=e.new k b z2
    rw[y]at q;cases q
  split at h1
  .split at h2
   .omega
   .rename_i z1 z2
    exact key k z2 h1 h2
  .split at h2
   .rename_i z1 z2
    exact key j z1 h2 h1
   .exact e.dis j k b hjk h1 h2
 .try dsimp only at hb
  split at hb
  .have hh:H0 b=none:=by
    rcases (nw' b hb).2 with y |y
    .exact (e.new i b (by rw[eA];exact y)).2.1
    .exact e.ext.hh.free y
   refine⟨(nw' b hb).1,hh,?_⟩
   rcases mem_cons.mp hb with y |y
   .rw [y];exact⟨_,hp',rfl⟩
   .rcases mem_cons.mp y with y |y
    .rw [y];exact⟨_,hd',rfl⟩
    .exact hB'.isl b y
  .rename_i z
   obtain⟨h1,h2,xs,h3,himm⟩:=e.new j b hb
   have hni:b∉p::dx::B:=λy=>e.dis j i b z hb (by rw[eA];exact y)
   exact⟨nofz b _ h1 h3 himm hni,h2,xs,keep b _ hni h3,himm⟩
theorem Xfi {n:Nat}{sp:DMo}{a:TA}{As:DA}(CV:ClsV K c ns)(hm:m∉ns)(ha:Xiy K a As):Xfn K (Xov (Xm8 K c m (spM K n c ns sp) (Xm7 i) a)) (Yg3 c ns i n sp As):=λF0 H0 F H Y M De En e l w=>by
 unfold Yg3 at w
 split at w
 .rename_i o c' ns' ts hs
  obtain⟨rfl,rfl,w⟩:=w
  obtain⟨A,e⟩:=e
  obtain⟨v,hv,p,C,dx,vs,B,rfl,eA,h0,ho,h1,h2,hl,h3⟩:=e.own i _ hs
  refine⟨C,h0,_,hv,p,dx,_,rfl,h1,Xfm hm,?_⟩
  refine ha F0 H0 F H Y M _ _ ⟨A,e⟩ w λds us F1 H1 w1 x1 r1=>?_
  show spM K n c' ns' sp (V.ref p::(us++[])) H1 (λ_ H2=>En.nx Y H2) E0
  rw[append_nil]
  exact Ye3 ⟨A,e.on x1⟩ hs hv l w1.1 r1 w1.2
 .exact w.elim
theorem Xxn {sp:DMo}(CV:ClsV K c ns)(hf:ns[j]?=some f)(hm:m∉ns):Xfn K (Xov (Xm8 K c m (spM K 2 c ns sp) (Xm7 i) (Xla (Ymg K "list" rPop (Ygo K (Xm7 i) f)) Xvq))) (Xqn c ns i j sp):=λF0 H0 F H Y M De En e l w=>by
 unfold Xqn at w
 split at w
 .rename_i o c' ns' ts hs
  obtain⟨rfl,rfl,us,d,hx,w⟩:=w
  obtain⟨A,e⟩:=e
  obtain⟨v,hv',p,C',dx',vs,B,rfl,eA,h0',ho,h1',h2',hl',h3⟩:=e.own i _ hs
  obtain⟨a,b0,ws,y,C,dx,fs,hv,h1,h0,cl,na,hl,hc,hy,ry,h1b,e'⟩:=e.fpop CV hf hs hx
  rw[hv']at hv
  cases hv
  refine⟨C',h0',_,hv',p,dx',_,rfl,h1',Xfm hm,?_⟩
  refine⟨_,hv',p,C,dx,fs,.ref b0,rfl,h1,cl,na,hl,.inl ⟨rfl,_,SqL.of hc⟩,b0,ws,y,rfl,rfl,hc,hy,?_⟩
  show spM K 2 c' ns' sp (V.ref p::([y]++[])) _ (λ_ H2=>En.nx Y H2) E0
  have hlt:i<M.length:=(List.getElem?_eq_some_iff.mp hs).1
  exact Ye3 (M:=M.set i (some (.own (.ob o c' ns' (ts.set j (.nl us)))))) e' (getElem?_set_self hlt) hv' l (ds:=[d]) rfl (show Xb6 K F [d] [y] from⟨y,[],rfl,ry,rfl⟩) (by simpa only[List.set_set] using w)
 .exact w.elim
theorem Xdt {n:Nat}{sp:DSp}{a:TA}{As:DA}(CV:ClsV K c ns)(hm:m∉ns)(h:Xhv K te E)(ha:Xos K a As):Xj5 K (Xm8 K c m (spV K n sp) te a) (Yf5 c ns n sp E As):=λF0 H0 F H Y M P Q e w q=>by
 have key:(∃C,nsIn K mainGlobals c=some (some (.ref C)))->Xm8 K c m (spV K n sp) te a Y H Q:=λ⟨C,hC⟩=>by
  refine⟨C,hC,?_⟩
  refine h F0 H0 F H Y M _ _ e w λd v F1 H1 w1 x1 r1=>?_
  try dsimp only at w1
  split at w1
  .rename_i c' ns' fs
   obtain⟨rfl,rfl,w1⟩:=w1
   have r1':=r1
   obtain⟨p,C',dx,vs,rfl,h0,h1,hl,h2⟩:=r1
   rw[hC]at h0
   cases h0
   refine⟨p,dx,_,rfl,h1,Xfm hm,?_⟩
   refine ha F0 H0 F1 H1 Y M _ _ (e.on x1) w1 λds us F2 H2 w2 x2 r2=>?_
   show spV K n sp (V.ref p::(us++[])) H2 Q E0
   rw[append_nil]
   have x12:=x1.trans x2
   refine⟨by rw[length_cons,<- r2.length];exact w2.1,H2,.obj c' ns' fs::ds,_,Xbi.refl _,⟨.ref p,us,rfl,r1'.mono x2.hh,r2⟩,w2.2,λr v F' H' p x' r'=>?_⟩
   have s1:Xbi F2 F':=x2.fh.trans x'.ff
   have x3:=Xfy s1
   obtain⟨A,a1,a2,a3⟩:=r'
   refine q r v (Xu8 F2 F') H' p.2 (x12.trans ⟨x3.ff,x'.hh,x3.fh.trans x'.fh,λb o z1 z2 z3=>?_⟩) ⟨A,a1.lf s1 p.1,a2,λb hb=>⟨x12.hh.free (a3 b hb).1,x3.fh.free (a3 b hb).2⟩⟩
   exact x3.no b o z1 (x'.ff _ _ z2) z3
  .exact w1.elim
 exact key ⟨_,CV.ex.choose_spec.1⟩
theorem Xue {n:Nat}{sp:DMo}{a:TA}{As:DA}(CV:ClsV K c ns)(ha:Xiy K a As):Xj5 K (Ye0 K c (spM K n c ns sp) a) (Ylx c ns n sp As):=λF0 H0 F H Y M P Q e w q=>by
 obtain⟨C,hC,_⟩:=CV.ex
 refine⟨C,hC,ha F0 H0 F H Y M _ _ e w λds us F1 H1 w1 x1 r1=>λx dx hx hd hne=>?_⟩
 show spM K n c ns sp (V.ref x::(us++[])) _ _ E0
 rw[append_nil]
 have s0:Xbi H1 (upd (upd H1 dx (.own x)) x (.ins C dx [])):=λb o z=>Xaz (λy=>by rw[y,hx]at z;cases z) (Xaz (λy=>by rw[y,hd]at z;cases z) z)
 refine⟨by rw[length_cons,<- r1.length];exact w1.1,F1,x,C,dx,[],[],[],us,ds,_,rfl,hC,x1.fh.trans s0,(by rw[List.zip_nil_right];exact Xa3),Xaz hne Xa3,zero_le _,⟨rfl,rfl⟩,?_,λb hb=>?_,r1,w1.2,?_⟩
 .simp only[nodup_cons,mem_cons,not_mem_nil,or_false,not_false_eq_true,nodup_nil,and_true]
  exact λz=>hne z.symm
 .rcases mem_cons.mp hb with z |z
  .rw [z];exact x1.fh.free hx
  .rw [mem_singleton.mp z];exact x1.fh.free hd
 intro ts' F' H' dx' vs' B' pt sF sH keep nofz hp' hd' hl' hB' nd' nw'
 have s1:∀b o,H1 b=some o->b∉x::dx::([]:List Addr):=λb o z y=>by
  rcases mem_cons.mp y with y |y
  .rw [y,hx]at z;cases z
  .rw [mem_singleton.mp y,hd]at z;cases z
 refine⟨rfl,q _ _ F' H' pt (x1.trans ⟨sF,λb o z=>keep b o (s1 b o z) (s0 _ _ z),sH,λb o z1 z2 z3=>nofz b o z1 (s0 _ _ z2) z3 (s1 b o z2)⟩) ⟨x::dx'::B',⟨x,C,dx',vs',B',rfl,rfl,hC,(λ_ z=>by cases z),hp',hd',hl',hB'⟩,nd',λb hb=>⟨?_,(nw' b hb).1⟩⟩⟩
 rcases (nw' b hb).2 with y |y
 .rcases mem_cons.mp y with y |y
  .rw [y];exact x1.hh.free hx
  .rw [mem_singleton.mp y];exact x1.hh.free hd
 .exact x1.hh.free (s0.free y)
end
section
variable {P:Program}{w:World}{K:Frag}{mg:Str->Option Value}{base:Heap}{c m q:Str}{ns:List Str}{st:Stmt}{f:Addr}{fd:FuncData}{N ps:List Str}{k n:Nat}
theorem Yft {sp:DMo}(Fn:Fun K m q st f fd)(S:FnScope N ps (Xaf st))(hn:n=ps.length)
  (hbody:∀(cdv:Value) (A:Around) (outer:List Env) (s:Shared) (H:Hp) (E:XK),Room k (A.deeper (envOfC q (Xaf st) s.heap.objs.size f cdv))->
   ∃t T,PSs (Xvd CX0 P w K mg base N q (Xaf st) f cdv A outer s H E).nox (Xbn st) t/\Xfn K t T/\∀(a:Addr) ts ds Pr,sp ts ds Pr->T {nx:=λM=>∃ts',M[0]?=some (some (.own (.ob (some a) c ns ts')))/\Pr ts',rt:=λ_=>False} (Xj8 N c ns a ts ds)):
  FnOk P w K mg base CX0 (k+1) f fd ps (spM K n c ns sp):=
 Fn.ok S (λvs H Q E h=>by rw[<- hn];exact h.1) λcdv A outer s H vs Q E hr h=>by
  obtain⟨_,F,a,C,dx,ts,vs0,B,Xht,ds,Pr,rfl,hC,hs,ha,hd,hlen,hB,hnd,hnf,hr',hsp,hq⟩:=h
  obtain⟨t,T,h1,h2,h3⟩:=hbody cdv A outer s H E hr
  have hl:=hr'.length
  have er : ER K F (λb=>if b∈a::dx::B then none else H b) F H (Xe0 N (V.ref a::Xht)) (Xj8 N c ns a ts ds) (λj=>if j=0 then a::dx::B else []):=by
   refine⟨by simp[Xe0,Xj8,hl],⟨Xbi.refl _,λb o z=>?_,hs,λ_ _ z _ _=>z⟩,λi t hi=>?_,λi d hi=>?_,λj=>?_,λj k b hjk y1 y2=>?_,λj b hb=>?_⟩
   .try dsimp only at z
    split at z
    .cases z
    .exact z
   .unfold Xj8 at hi
    cases i with
    |zero=>
     simp at hi
     subst hi
     exact⟨.ref a,rfl,a,C,dx,vs0,B,rfl,rfl,hC,(λ_ z=>Option.some.inj z),ha,hd,hlen,hB⟩
    |succ i=>
     rw[getElem?_cons_succ]at hi
     try dsimp only
     rw[if_neg (by omega)]
     by_cases z:i<ds.length
     .rw [getElem?_append_left (by simpa using z),getElem?_map,getElem?_eq_getElem z]at hi
      simp at hi
      subst hi
      obtain⟨v,g1,g2⟩:=hr'.get (getElem?_eq_getElem z)
      refine⟨v,?_,rfl,g2⟩
      unfold Xe0
      rw[map_cons,cons_append,getElem?_cons_succ,getElem?_append_left (by simp;omega),getElem?_map,g1]
      rfl
     .rw [getElem?_append_right (by simpa using z)]at hi
      have:=mem_of_getElem? hi
      rw[mem_replicate]at this
      cases this.2
   .unfold Xj8 at hi
    cases i with
    |zero=>simp at hi
    |succ i=>
     rw[getElem?_cons_succ]at hi
     by_cases z:i<ds.length
     .rw [getElem?_append_left (by simpa using z),getElem?_map,getElem?_eq_getElem z]at hi
      simp at hi
     .rw [getElem?_append_right (by simpa using z)]at hi
      have:=mem_of_getElem? hi
      rw[mem_replicate]at this
      cases this.2
   .try dsimp only
    split
    .exact hnd
    .exact nodup_nil
   .try dsimp only at y1 y2
    split at y1
    .split at y2
     .omega
     .cases y2
    .cases y1
   .try dsimp only at hb
    split at hb
    .refine ⟨hnf b hb,if_pos hb,?_⟩
     rcases mem_cons.mp hb with y |y
     .rw [y];exact⟨_,ha,rfl⟩
     .rcases mem_cons.mp y with y |y
      .rw [y];exact⟨_,hd,rfl⟩
      .exact hB.isl b y
    .cases hb
  refine⟨t,h1,h2 F _ F H (Xe0 N (V.ref a::Xht)) (Xj8 N c ns a ts ds) {nx:=λM=>∃ts',M[0]?=some (some (.own (.ob (some a) c ns ts')))/\Pr ts',rt:=λ_=>False} _ ⟨_,er⟩ ⟨λF' H' Y M e p=>?_,λ_ _ _ _ _ z=>z.elim,λ_ _ _ _ _ z=>z.elim,λ_ _ _ _ _ _ z=>z.elim⟩ (h3 a ts ds Pr hsp)⟩
  obtain⟨A',e⟩:=e
  obtain⟨ts',h0,hp⟩:=p
  obtain⟨v,hv,a',C',dx',vs',B',rfl,eA,g0,go,g1,g2,g3,g4⟩:=e.own 0 _ h0
  obtain rfl:=go a rfl
  rw[hC]at g0
  cases g0
  have hn':=e.nod 0
  rw[eA]at hn'
  refine hq ts' F' H' dx' vs' B' hp e.ext.ff e.ext.fh (λb o y z=>?_) (λb o y1 y2 y3 y4=>?_) g1 g2 g3 g4 hn' (λb hb=>?_)
  .exact e.ext.hh b o (by rw[if_neg y];exact z)
  .exact e.ext.no b o y1 (by rw[if_neg y4];exact y2) y3
  .obtain ⟨z1,z2,_⟩:=e.new 0 b (by rw[eA];exact hb)
   refine⟨z1,?_⟩
   by_cases q:b∈a'::dx::B
   .exact .inl q
   .rw [if_neg q]at z2;exact .inr z2
theorem CalM.of {sp:DMo}(Df:MetAt K c m q st f fd)(S:FnScope N ps (Xaf st))
  (hb:∀(kV doc pm:Value) (an:Option Addr) (cdv ct:Value) (us:List Value),us.length=ps.length->bindArgs (fnOf m q (Xb9 st) (Xbn st) (Xaf st) .none kV doc pm an cdv ct) ⟨us,[]⟩=pure (ps.zip us)) (hn:n=ps.length)
  (hbody:∀(cdv:Value) (A:Around) (outer:List Env) (s:Shared) (H:Hp) (E:XK),Room k (A.deeper (envOfC q (Xaf st) s.heap.objs.size f cdv))->
   ∃t T,PSs (Xvd CX0 P w K mg base N q (Xaf st) f cdv A outer s H E).nox (Xbn st) t/\Xfn K t T/\∀(a:Addr) ts ds Pr,sp ts ds Pr->T {nx:=λM=>∃ts',M[0]?=some (some (.own (.ob (some a) c ns ts')))/\Pr ts',rt:=λ_=>False} (Xj8 N c ns a ts ds)):
  CalM P w K mg base c m (k+1) ps (spM K n c ns sp):=by
 obtain⟨C,hC,cl,hm⟩:=Df.cl
 exact⟨C,f,fd,hC,cl,hm,Yft Df.fn S hn hbody,Df.fn.binds hb⟩
theorem CalK.of {sp:DMo}(Df:Fun K m q st f fd)(Mf:MakAt K mg c f)(S:FnScope N ps (Xaf st))
  (hb:∀(kV doc pm:Value) (an:Option Addr) (cdv ct:Value) (us:List Value),us.length=ps.length->bindArgs (fnOf m q (Xb9 st) (Xbn st) (Xaf st) .none kV doc pm an cdv ct) ⟨us,[]⟩=pure (ps.zip us)) (hn:n=ps.length)
  (hbody:∀(cdv:Value) (A:Around) (outer:List Env) (s:Shared) (H:Hp) (E:XK),Room k (A.deeper (envOfC q (Xaf st) s.heap.objs.size f cdv))->
   ∃t T,PSs (Xvd CX0 P w K mg base N q (Xaf st) f cdv A outer s H E).nox (Xbn st) t/\Xfn K t T/\∀(a:Addr) ts ds Pr,sp ts ds Pr->T {nx:=λM=>∃ts',M[0]?=some (some (.own (.ob (some a) c ns ts')))/\Pr ts',rt:=λ_=>False} (Xj8 N c ns a ts ds)):
  CalK P w K mg base c (k+1) ps (spM K n c ns sp):=by
 obtain⟨C,hC,δ,hm⟩:=Mf.cl
 exact⟨C,f,fd,hC,δ,hm,Yft Df S hn hbody,Df.binds hb⟩
theorem CalP.of {sp:DSp}(Df:MetAt K c m q st f fd)(S:FnScope N ps (Xaf st))
  (hb:∀(kV doc pm:Value) (an:Option Addr) (cdv ct:Value) (us:List Value),us.length=ps.length->bindArgs (fnOf m q (Xb9 st) (Xbn st) (Xaf st) .none kV doc pm an cdv ct) ⟨us,[]⟩=pure (ps.zip us)) (hn:n=ps.length)
  (hbody:∀(cdv:Value) (A:Around) (outer:List Env) (s:Shared) (H:Hp) (E:XK),Room k (A.deeper (envOfC q (Xaf st) s.heap.objs.size f cdv))->
   ∃t T,PSs (Xvd CX0 P w K mg base N q (Xaf st) f cdv A outer s H E).nox (Xbn st) t/\Xfn K t T/\∀ds Pr,sp ds Pr->T {nx:=λ_=>Pr (.fz .non),rt:=Pr} (Xgg N ds)):CalM P w K mg base c m (k+1) ps (spV K n sp):=by
 obtain⟨C,hC,cl,hm⟩:=Df.cl
 refine⟨C,f,fd,hC,cl,hm,Df.fn.ok S (λvs H Q E h=>by rw[<- hn];exact h.1) λcdv A outer s H vs Q E hr h=>?_,Df.fn.binds hb⟩
 obtain⟨_,F,ds,Pr,hs,hr',hsp,hq⟩:=h
 obtain⟨t,T,h1,h2,h3⟩:=hbody cdv A outer s H E hr
 refine⟨t,h1,h2 F H F H (Xe0 N vs) (Xgg N ds) {nx:=λ_=>Pr (.fz .non),rt:=Pr} _ ⟨_,Xj7 hs hr'⟩ ⟨λF' H' Y M e p=>?_,λ_ _ _ _ _ z=>z.elim,λ_ _ _ _ _ z=>z.elim,λF' H' r v x n p=>hq r v F' H' p x n⟩ (h3 ds Pr hsp)⟩
 exact hq _ _ F' H' p e.ext (.fz rfl)
end
end L2
namespace PySem
open Sem (wp)
section
variable {prog:Program}{w:World}{A:Around}{E:Value->Shared->Prop}{s:Shared}
theorem Xx8:typeLookup (.type "list_reverseiterator") "__len__"=pure none:=by rw[typeLookup_type,builtinLookup_eq_fast];kernel_rfl
theorem Yd8:typeLookup (.type "list_reverseiterator") "__length_hint__"=pure (some (.builtin "list_reverseiterator.__length_hint__")):=by rw[typeLookup_type,builtinLookup_eq_fast];kernel_rfl
theorem Xou {I l:Addr}{i:Int}{Q:Bool->Shared->Prop}(hr:s.heap.IsRevIter I l i)(h:Q false s):wpAny (model prog w) A (Builtin.List.listLengthHint (.ref I)) Q E s:=by
 unfold Builtin.List.listLengthHint
 refine wpAny_bind (wpAny_specialOf hr.typeIs Xx8 ?_)
 show wpAny _ A (specialOf (Value.ref I) (Str.ofString "__length_hint__") >>= _) _ _ _
 refine wpAny_bind (wpAny_specialOf hr.typeIs Yd8 ?_)
 generalize hid:("list_reverseiterator.__length_hint__":String)=id0
 wp_delta
 rw[show splitId id0=some ("list_reverseiterator","__length_hint__") from by subst hid;decide +kernel]
 subst hid
 refine wpAny_bind (wpAny_isInstance (T := "list_reverseiterator") (b:=true) hr.typeIs (by rw[isSubtype_type];kernel_rfl) ?_)
 refine wpAny_ite_split (λhab=>absurd hab (by decide)) (λ_=>?_)
 refine wpAny_ite_split (λ_=>?_) (λhab=>absurd (by decide +kernel) hab)
 refine wpAny_ite_split (λhab=>absurd hab (by decide +kernel)) (λ_=>?_)
 exact wpAny_pure h
theorem Xmf {R:Result->Shared->Prop}{I l:Addr}{items:Array Value}(hh:A.handled=none)(hr:s.heap.IsRevIter I l ((items.size:Int)-1))(hl:s.heap.IsList l items)(hlen:items.size<=2^24)
  (S:Addr) (res:Value) (c₀:Nat) (hS:s.heap.get? S=some {cls:=.type "list",data:=.seq #[] c₀}) (hSI:S≠I) (hSl:S≠l) (hlI:l≠I)
  (hR:∀h' tk acc' c',(∀b o,b≠S->b≠I->s.heap.get? b=some o->h'.get? b=some o)->h'.get? S=some {cls:=.type "list",dict:=none,data:=.seq acc' c',slots:=#[]}->
   ItemsOf (λi v=>items[items.size-1-i]?=some v) acc' items.size->R (.ok (.ret res)) {s with heap:=h',toks:=tk}):
  wpAny (model prog w) A.in1 (Builtin.List.listExtendWith (.ref S) (.ref I) res)
   (λfin s'=>match fin with | .done f=>R (.ok f) s' | .again c'=>c'.quiet=true/\codeAny (model prog w) A c' R s') (λe s'=>R (.error e) s') s:=by
 have hSf:S∉[I,l]:=λhm=>by
  rcases mem_cons.mp hm with e |e
  .exact hSI e
  .exact hSl (mem_singleton.mp e)
 have W:=(Walks.listRev (prog:=prog) (w:=w) (A:=A.in1) hh I l hlI items).toS
 unfold Builtin.List.listExtendWith
 refine wpAny_bind (wpAny_typeOf hr.typeIs ?_)
 have h1:Builtin.List.listSameRef (.ref S) (.ref I)=false:=by simp[Builtin.List.listSameRef,hSI]
 have h2:(Value.type "list_reverseiterator"==Value.type "list")=false:=by decide
 have h3:(Value.type "list_reverseiterator"==Value.type "tuple")=false:=by decide
 simp only[h1,h2,h3,Bool.or_false,false_eq_true,if_false]
 refine wpAny_bind (wpAny_pyIter_revIter hr ?_)
 refine wpAny_bind (wpAny_holding (Xou hr ?_))
 refine wpAny_ite_split (λhab=>absurd hab (by decide)) (λ_=>wpAny_pure ⟨plainId_quiet F.plain_extend_loop _,?_⟩)
 refine codeAny_extend_loopS W (by rw[sizeLine_eq];omega) S hSf res items.size 0 _ #[] c₀ rfl (zero_le _) ⟨zero_le _,by simpa using hr,hl⟩ hS (ItemsOf.nil _) λs' acc' c' hm hS' hacc=>?_
 rw[Moved.eq_with hm]
 refine hR s'.heap s'.toks acc' c' (λb o hb hb2 e=>hm.heap b o (λhmem=>?_) e) hS' hacc
 rcases mem_cons.mp hmem with e' |hmem
 .exact hb e'
 .exact hb2 (mem_singleton.mp hmem)
theorem Xjk {R:Result->Shared->Prop}{I l:Addr}{items:Array Value}(hh:A.handled=none)(hr:s.heap.IsRevIter I l ((items.size:Int)-1))(hl:s.heap.IsList l items)(hlen:items.size<=2^24)
  (S:Addr) (hS:s.heap.get? S=some {cls:=.type "list",data:=.seq #[]}) (hSI:S≠I) (hSl:S≠l) (hlI:l≠I)
  (hR:∀h' tk acc' c',(∀b o,b≠S->b≠I->s.heap.get? b=some o->h'.get? b=some o)->h'.get? S=some {cls:=.type "list",dict:=none,data:=.seq acc' c',slots:=#[]}->
   ItemsOf (λi v=>items[items.size-1-i]?=some v) acc' items.size->R (.ok (.ret .none)) {s with heap:=h',toks:=tk}):
  wpAny (model prog w) A.in1 (Builtin.«list.__init__» ⟨[.ref S,.ref I],[]⟩)
   (λfin s'=>match fin with | .done f=>R (.ok f) s' | .again c'=>c'.quiet=true/\codeAny (model prog w) A c' R s') (λe s'=>R (.error e) s') s:=by
 show wpAny _ _ (do let old <- Builtin.List.listItems (.ref S);Builtin.List.listUpdate (.ref S) (λ_=>#[]);letGo old.toList.reverse;Builtin.List.listExtendWith (.ref S) (.ref I) .none) _ _ s
 refine wpAny_bind ?_
 unfold Builtin.List.listItems
 refine wpAny_bind (wpAny_seqItems hS rfl (wpAny_pure ?_))
 show wpAny _ _ (updateSeq S (λ_=>#[]) >>= λ_=>letGo (#[]:Array Value).toList.reverse >>= λ_=>Builtin.List.listExtendWith (.ref S) (.ref I) .none) _ _ s
 refine wpAny_bind (wpAny_updateSeq hS rfl ?_)
 have hS₂:=get?_update_self (Obj.mapSeq (λ_=>(#[]:Array Value))) hS rfl
 have oth:∀b o,b≠S->s.heap.get? b=some o->(s.heap.update S (Obj.mapSeq (λ_=>(#[]:Array Value)))).get? b=some o:=
  λb o hb e=>(get?_update_other _ _ (Ne.symm hb)).trans e
 refine wpAny_bind (wpAny_letGo ?_)
 refine Xmf hh (hr.at λo e=>oth I o (Ne.symm hSI) e) (hl.at λo e=>oth l o (Ne.symm hSl) e) hlen S .none _ hS₂ hSI hSl hlI λh' tk acc' c' hk hS' hacc=>?_
 exact hR h' tk acc' c' (λb o hb hb2 e=>hk b o hb hb2 (oth b o hb e)) hS' hacc
theorem call_list_lri {Q:Value->Shared->Prop}{I l:Addr}{items:Array Value}(hh:A.handled=none)(hr:s.heap.IsRevIter I l ((items.size:Int)-1))(hl:s.heap.IsList l items)(hlen:items.size<=2^24)(hlI:l≠I)
  (hQ:∀h' tk acc' c',(∀b o,b≠I->s.heap.get? b=some o->h'.get? b=some o)->
   h'.get? s.heap.objs.size=some {cls:=.type "list",dict:=none,data:=.seq acc' c',slots:=#[]}->ItemsOf (λi v=>items[items.size-1-i]?=some v) acc' items.size->Q (.ref s.heap.objs.size) {s with heap:=h',toks:=tk}):
  wpAny (model prog w) A (call (.type "list") [.ref I]) Q E s:=by
 refine callType_codes (Q₁:=λobj s₁=>obj = .ref s.heap.objs.size/\s₁={s with heap:=s.heap.push {cls:=.type "list",data:=.seq #[]}}) F.called_list (F.typeCall_list_1 _) F.entry_list_init
  (code_list_new _ ⟨rfl,rfl⟩) λobj s₁ h₁=>?_
 obtain⟨rfl,rfl⟩:=h₁
 have hS:(s.heap.push {cls:=.type "list",data:=.seq #[]}).get? s.heap.objs.size=some {cls:=.type "list",data:=.seq #[]}:=get?_push_size _ rfl
 obtain⟨oI,hoI,_⟩:=id hr
 obtain⟨ol,hol,_⟩:=id hl
 refine⟨⟨_,hS,rfl⟩,F.args_list_init_2 _ _,Xjk (A:=A.in1) hh (hr.at λo e=>get?_push_of_some _ e) (hl.at λo e=>get?_push_of_some _ e) hlen _ hS (Ne.symm (ne_of_lt (lt_size hoI))) (Ne.symm (ne_of_lt (lt_size hol))) hlI λh' tk acc' c' hk hS' hacc=>?_⟩
 exact⟨rfl,hQ h' tk acc' c' (λb o hb e=>hk b o (ne_of_lt (lt_size e)) hb (get?_push_of_some _ e)) hS' hacc⟩
end
end PySem
namespace L2
open PySem PySem.Spec PyProof.Rows
def Xw0 (As:DA):DO:=λM P=>As M λds=>match ds with
 | [.lst xs]=>D.lfs xs=true/\xs.length<=1000000/\P (.nl (xs.reverse.map .fz))
 |_=>False
section
variable {X:Cx}{K:Frag}
def Xvr (K:Frag)(ta:TA):TE:=λY H Q=>ta Y H λvs H1=>∃a xs,vs=[.ref a]/\SqL K H1 a xs/\xs.length<=1000000/\∀p H',H1 p=none->Xbi H1 H'->H' p=some (.lst xs.reverse)->Q (.ref p) H'
theorem Yck {xs:List V}{its:List Value}{acc:Array Value}(r:Xcd xs its)(h:ItemsOf (λi v=>its.toArray[its.toArray.size-1-i]?=some v) acc its.toArray.size):Xcd xs.reverse acc.toList:=by
 have hr:Xcd xs.reverse its.reverse:=by
  clear h
  induction r with
  |nil=>exact .nil
  |cons a r ih=>
   rw[reverse_cons,reverse_cons]
   exact ih.append (.cons a .nil)
 have e:acc.toList=its.reverse:=by
  obtain⟨h1,h2⟩:=h
  have h1':acc.size=its.length:=by simpa using h1
  rw[size_toArray]at h2
  refine ext_getElem? λi=>?_
  by_cases hi:i<its.length
  .rw [getElem?_reverse hi]
   have hia:i<acc.size:=by omega
   have q:=h2 i acc[i] (by simp[hia])
   rw[Array.getElem?_toList,Array.getElem?_eq_getElem hia,<- q]
   simp
  .rw [getElem?_eq_none (by simp;omega),getElem?_eq_none (by simp;omega)]
 rw[e];exact hr
theorem Xpp {a:Expr}{ta:TA}{p p' pos pos':Pos}(hg:Gl X "list")(hm:X.mg "list"=none)(hc:X.calm=true)(hm':X.mg "reversed"=none)(ha:PA X [a] ta)(hg':Gl X "reversed":=by rfl)
  (hs:starEach [a] X.env=[(false,eval a X.env)]:=by rfl)
  (hs2:starEach [Expr.Call (.Name "reversed" p') [a] [] pos'] X.env=[(false,eval (Expr.Call (.Name "reversed" p') [a] [] pos') X.env)]:=by rfl):
  PE X (.Call (.Name "list" p) [.Call (.Name "reversed" p') [a] [] pos'] [] pos) (Xvr X.K ta):=by
 intro pins s Y H Q I h
 refine Call_ (Xgn I hg hm PyProof.Rows.boot_list (PyProof.Rows.callWith_type1 ?_ hs2 rfl))
 rw[hs2]
 show wpAny _ _ (spliced [(false,eval (Expr.Call (.Name "reversed" p') [a] [] pos') X.env)]) _ _ s
 refine Calls.spliced_cons ?_
 refine Call_ (Xgn I hg' hm' PyProof.Rows.boot_reversed (PyProof.Rows.callWith_type1 (thn (ha pos' pins s Y H _ I h) λus s1 ⟨vs,H1,I1,r1,q1⟩=>?_) hs rfl))
 obtain⟨l,xs,e,hq,hsz,q⟩:=q1
 subst e
 obtain⟨u,rfl,ru⟩:=Xhx r1
 cases ru
 obtain⟨its,rv,pt,hz⟩:=I1.list hq
 have hl:=rv.length
 refine PySem.call_reversed_list (items:=its.toArray) pt.isList ?_
 refine Calls.spliced_nil ?_
 have I2:Inv X pins Y H1 {s1 with heap:=s1.heap.push (revObj l ((its.toArray.size:Int)-1)),toks:=s1.toks}:=I1.kept λb o e=>get?_push_of_some _ e
 obtain⟨ol,hol,_⟩:=id pt.isList
 have hlt:=lt_size hol
 refine PySem.call_list_lri (items:=its.toArray) (I.ok.hd hc) ⟨_,get?_push_size _ rfl,rfl,rfl⟩ (pt.isList.at λo e=>get?_push_of_some _ e) (by rw[size_toArray];omega) (ne_of_lt hlt) λh' tk acc c' hk ho hit=>?_
 have hf:=I2.hok.fresh (Nat.le_refl _)
 have hsz2:(s1.heap.push (revObj l ((its.toArray.size:Int)-1))).objs.size=s1.heap.objs.size+1:=by simp[Heap.push]
 refine⟨.ref _,_,I1.laid (t':=tk) (o:=.lst xs.reverse) (λb o e=>hk b o (ne_of_lt (lt_size e)) (get?_push_of_some _ e)) (by rw[hsz2];exact le_succ _) ⟨?_,acc.toList,c',Yck rv hit,?_⟩,rfl,q _ _ hf (Xbi.new hf) Xa3⟩
 .rw [length_reverse];exact Xdp hsz
 .simpa using ho
theorem Xpl {a:TA}{As:DA}(h:Xos K a As):Xj5 K (Xvr K a) (Xw0 As):=λF0 H0 F H Y M P Q e w q=>h F0 H0 F H Y M _ _ e w λds vs F1 H1 w1 x1 r1=>by
 try dsimp only at w1
 split at w1
 .rename_i xs
  obtain⟨v,rfl,⟨a,us,rfl,h1,h2⟩⟩:=Xhf r1
  refine⟨a,us,rfl,h1,by rw[<- h2.length];exact w1.2.1,λp H' p0 sm p1=>?_⟩
  have hr:=(Xb6.lf x1.fh h2 w1.1).reverse
  refine q _ _ (Xu8 F1 H1) H' w1.2.2 (x1.trans ((Xfy x1.fh).trans (Ext.grow (Xfy x1.fh).fh sm))) ?_
  exact Xpc.list (x1.hh.free p0) ((Xfy x1.fh).fh.free p0) p1 hr
 .exact w1.elim
end
def Yfi (x:Str)(n:Int):Str:=if n<1 then Str.empty else if (n==1 ||x.length==0)=true then x else ⟨(List.replicate n.toNat x.cps).foldl (·++·) #[]⟩
def Yly (E El:DE):DE:=λM P=>E M λd=>match d with
 | .str x=>El M λl=>match l with
  | .lst ds=>∃ys:List Str,ds=ys.map D.str/\(ys.map (·.length)).sum+ys.length*x.length<=16777216/\P (.str (Txt.join x ys))
  |_=>False
 |_=>False
def Yh5:DR2:=λx y P=>match x,y with
 | .str x,.int n=>-(2^62)<n/\n<2^62/\x.length*n.toNat<=1000000/\P (.str (Yfi x n))
 |_,_=>False
def Yi7:DR2:=λx y P=>match x,y with
 | .str x,.str y=>x.length+y.length<=1000000/\P (.str (x++y))
 |_,_=>False
def Yms:List D->(D->Prop)->Prop:=λds P=>match ds with
 | [.int i]=>i.natAbs.log2<1920/\P (.str (toString i))
 |_=>False
section
variable {X:Cx}{K:Frag}
def Yj9 (K:Frag):V->List V->Hp->VK->Prop:=λx vs H Q=>∃sep p xs,∃ys:List Str,x = .str sep/\vs=[.ref p]/\SqL K H p xs/\xs=ys.map V.str/\(ys.map (·.length)).sum+ys.length*sep.length<=16777216/\Q (.str (Txt.join sep ys)) H
theorem Xl2:∀{ys:List Str} {us:List Value},Xcd (ys.map V.str) us->StrsAre us ys
 | [],us,r=>by rw[map_nil]at r;cases r;exact .nil
 |y :: ys,us,r=>by
  rw[map_cons]at r
  cases r with
  |cons r1 r2=>
   obtain⟨t,e⟩:=r1
   subst e
   exact .cons y t (Xl2 r2)
theorem Yh6:MtR X "str.join" (Yj9 X.K):=by
 intro pins s Y H x xs v us Q I rx r h
 obtain⟨sep,p,zs,ys,rfl,rfl,hq,rfl,hb,q⟩:=h
 obtain⟨t,rfl⟩:=rx
 obtain⟨u,rfl,ru⟩:=Xhx r
 cases ru
 obtain⟨its,rv,pt,hz⟩:=I.list hq
 refine PyProof.Rows.join_list pt.isList (by simpa using Xl2 rv) hb λt' k=>⟨.str _,H,I.tok k,⟨_,rfl⟩,q⟩
def Yj7:R2:=λx y H Q=>∃z n,x = .str z/\y = .int n/\-(2^62)<n/\n<2^62/\z.length*n.toNat<=1000000/\Q (.str (Yfi z n)) H
theorem Yaq:OpR X (binaryOp .Mult) Yj7:=by
 intro pins s Y H x y v u Q I rx ry h
 obtain⟨z,n,rfl,rfl,h1,h2,h3,q⟩:=h
 obtain⟨t,rfl⟩:=rx
 obtain⟨t',rfl⟩:=ry
 have q':∀k t,EP X pins Y Q (.str (Yfi z n) t) {s with toks:=k}:=λk t=>⟨.str _,H,I.tok k,⟨_,rfl⟩,q⟩
 refine PySem.P.mul_str ?_ (λa b=>?_) (λa b=>?_) ?_
 .simp;omega
 .have hz:z.length<=1000000:=le_trans (Nat.le_mul_of_pos_right _ (by omega)) h3
  have hn:n<=1000000∨z.length=0:=by
   by_cases hz0:z.length=0
   .exact .inr hz0
   .refine .inl ?_
    have:=le_trans (Nat.le_mul_of_pos_left n.toNat (Nat.pos_of_ne_zero hz0)) h3
    omega
  rcases hn with hn |hn
  .have e:(1000000:Int)<=(2^63-1) / n:=by
    rw[Int.le_ediv_iff_mul_le (by omega)]
    have:(1000000:Int)*n<=1000000*1000000:=Int.mul_le_mul_of_nonneg_left hn (by omega)
    omega
   omega
  .simp [hn]at b
 .have:=Xdp h3
  show decide (_ > sizeLine)=false
  exact decide_eq_false (by omega)
 .have hq:=q' s.toks t
  have hq2:=q' (s.toks+1) s.toks
  unfold Yfi at hq hq2
  split
  .rename_i c
   rw[if_pos c]at hq2
   exact⟨zero_le _,hq2⟩
  .rename_i c
   rw[if_neg c]at hq hq2
   split
   .rename_i c2
    rw[if_pos c2]at hq
    exact hq
   .rename_i c2
    rw[if_neg c2]at hq2
    refine⟨?_,hq2⟩
    have e:∀(k:Nat) (a:Array Nat),((List.replicate k z.cps).foldl (·++·) a).size=a.size+k*z.cps.size:=by
     intro k
     induction k with
     |zero=>intro a;simp
     |succ k ih=>intro a;rw[replicate_succ,foldl_cons,ih,size_append,succ_mul];omega
    show ((List.replicate n.toNat z.cps).foldl (·++·) #[]).size<=sizeLine
    rw[e]
    have h3':z.cps.size*n.toNat<=1000000:=h3
    rw[Nat.mul_comm]at h3'
    exact Xdp (by simpa using h3')
theorem Ya4:OpS K Yj7 Yh5:=λF H x y v u P Q s rx ry w q=>by
 unfold Yh5 at w
 split at w
 .cases rx;cases ry
  exact⟨_,_,rfl,rfl,w.1,w.2.1,w.2.2.1,q _ _ F H w.2.2.2 (Ext.refl s) rfl⟩
 .exact w.elim
theorem Xq3:OpS K (λx y H Q=>∃i j,x = .str i/\y = .str j/\i.length+j.length<=sizeLine/\Q (.str (i++j)) H) Yi7:=λF H x y v u P Q s rx ry w q=>by
 unfold Yi7 at w
 split at w
 .cases rx;cases ry
  exact⟨_,_,rfl,rfl,Xdp w.1,q _ _ F H w.2 (Ext.refl s) rfl⟩
 .exact w.elim
def Yfj:V->Option Int->Option Int->Hp->VK->Prop:=λx lo hi H Q=>∃z,x = .str z/\z.length<=sizeLine/\Q (.str (Txt.slice z lo hi)) H
theorem Xr2:SlR X Yfj:=by
 intro pins s Y H x v vl vu lo hi sl Q I rx hs pl pu h
 obtain⟨z,rfl,hz,q⟩:=h
 obtain⟨t,rfl⟩:=rx
 refine⟨"str",_,F.slot_str_getitem.lookup,typeIs_str _ _ _,?_⟩
 have fin:∀t' k,EP X pins Y Q (.str (Txt.slice z lo hi) t') {s with toks:=k}:=λt' k=>⟨.str _,H,I.tok k,⟨_,rfl⟩,q⟩
 have lp:∀{v:Value} {o:Option Int},IsPart v o->∃l:Option (Int×Tok),v=partValue l/\l.map (·.1)=o:=λh=>by
  cases h with
  |none=>exact⟨none,rfl,rfl⟩
  |int i t=>exact⟨some (i,t),rfl,rfl⟩
 obtain⟨l,rfl,e1⟩:=lp pl
 obtain⟨u,rfl,e2⟩:=lp pu
 subst e1 e2
 exact wpAny_getItem_str_slice (l:=l) (u:=u) (st:=none) hs rfl (post_val_or_str ⟨le_trans (Txt.slice_le z _ _) hz,λt' k=>fin t' k⟩)
theorem Yl6:CbS K (λxs H Q=>∃i,xs=[.int i]/\i.natAbs.log2<1920/\Q (.str (toString i)) H) Yms:=λF H ds vs P Q s rs w q=>by
 unfold Yms at w
 split at w
 .obtain ⟨v,rfl,r1⟩:=Xhf rs
  cases r1
  exact⟨_,rfl,w.1,q _ _ F H w.2 (Ext.refl s) rfl⟩
 .exact w.elim
theorem Yg8 {te ta:TE}{E El:DE}(h:Xhv K te E)(ha:Xhv K ta El):Xey K (tBM K "str" (Yj9 K) te (Xla ta Xvq)) (Yly E El):=λF0 H0 F H Y M P Q e w q=>h F0 H0 F H Y M _ _ e w λd v F1 H1 w1 x1 r1=>by
 try dsimp only at w1
 split at w1
 .rename_i x
  cases (show v=V.str x from r1)
  refine⟨rfl,ha F0 H0 F1 H1 Y M _ _ (e.on x1) w1 λl u F2 H2 w2 x2 r2=>?_⟩
  try dsimp only at w2
  split at w2
  .rename_i ds
   obtain⟨ys,rfl,hb,w2⟩:=w2
   obtain⟨a,us,rfl,h1,h2⟩:=r2
   have hus:us=ys.map V.str:=by
    clear h1 hb w2
    induction ys generalizing us with
    |nil=>exact h2
    |cons y ys ih=>
     obtain⟨v,r,rfl,g1,g2⟩:=h2
     rw[ih _ g2,show v=V.str y from g1];rfl
   exact⟨x,a,us,ys,rfl,rfl,h1,hus,hb,q _ _ F2 H2 w2 (x1.trans x2) rfl⟩
  .exact w2.elim
 .exact w1.elim
def Yow (E:DE)(L U:DPt):DE:=λM P=>E M λd=>L M λlo=>U M λhi=>match d with
 | .str z=>z.length<=1000000/\P (.str (Txt.slice z lo hi))
 |_=>False
theorem Xsg {ta:TE}{Ea:DE}{tl tu:TO}{L U:DPt}(ha:Xey K ta Ea)(hl:Ygh K tl L)(hu:Ygh K tu U):Xey K (tSl Yfj ta tl tu) (Yow Ea L U):=λF0 H0 F H Y M P Q e w q=>
 ha F0 H0 F H Y M _ _ e w λd v F1 H1 w1 x1 r1=>hl F0 H0 F1 H1 Y M _ _ (e.on x1) w1 λlo F2 H2 w2 x2=>hu F0 H0 F2 H2 Y M _ _ (e.on (x1.trans x2)) w2 λhi F3 H3 w3 x3=>by
  try dsimp only at w3
  split at w3
  .rename_i z
   cases (show v=V.str z from r1)
   exact⟨z,rfl,Xdp w3.1,q _ _ F3 H3 w3.2 (x1.trans (x2.trans x3)) rfl⟩
  .exact w3.elim
theorem Xma {F:Hp}:∀{ds:List D} {vs:List V},Xb6 K F ds vs->vs.isEmpty=ds.isEmpty
 | [],vs,h=>by cases (show vs=[] from h);rfl
 |d::ds,vs,h=>by obtain⟨v,r,rfl,_⟩:=h;rfl
theorem Yc1 {t:TE}{E:DE}(h:Xhv K t E):Xw9 K (λY H Q=>t Y H λx H1=>∃k,Ynq K x H1 k/\Q k H1) (Yf3 E):=λF0 H0 F H Y M P Q e w q=>h F0 H0 F H Y M _ _ e w λd v F1 H1 w1 x1 r1=>by
 try dsimp only at w1
 split at w1
 .cases r1;exact⟨_,rfl,q _ F1 H1 w1 x1⟩
 .rename_i i
  cases r1
  refine⟨_,rfl,q _ F1 H1 ?_ x1⟩
  rw[show (i != 0)=decide (i≠0) by rw[Bool.eq_iff_iff];simp]
  exact w1
 .obtain ⟨a,vs,rfl,h1,h2⟩:=r1
  exact⟨_,.inl ⟨vs,h1,by rw[Xma h2]⟩,q _ F1 H1 w1 x1⟩
 .obtain ⟨a,vs,rfl,h1,h2⟩:=r1
  exact⟨_,.inr (.inl ⟨vs,h1,by rw[Xma h2]⟩),q _ F1 H1 w1 x1⟩
 .cases r1;exact⟨_,rfl,q _ F1 H1 w1 x1⟩
 .exact w1.elim
end
def Xmg (x:Str):List Str:=x.cps.toList.map λc=>⟨#[c]⟩
def Yo2 (E:DE):DA:=λM P=>E M λd=>match d with
 | .str x=>P ((Xmg x).map D.str)
 |_=>False
section
variable {X:Cx}{K:Frag}
def Itx (x:Str):It:=⟨λi _=>i<x.cps.size,λi H v H'=>H'=H/\∃c,x.cps[i]?=some c/\v = .str ⟨#[c]⟩,λi _=>x.cps.size<=i⟩
theorem Xvo {P:Program}{w:World}{K:Frag}{tg:Expr}(it:Addr)(x:Str)(t:Tok):Turn P w K tg (Itx x) [it] it (λi h=>i<=x.cps.size/\(h.IsStrIter it "str_ascii_iterator" x t i∨h.IsStrIter it "str_iterator" x t i)) where
 mem:=by simp
 obj:=λi h st b hb=>by
  have e:b=it:=by simpa using hb
  subst e
  rcases st.2 with⟨o,ho,_,hd⟩ | ⟨o,ho,_,hd⟩
  .exact ⟨o,ho,λv z=>by rw[hd]at z;cases z⟩
  .exact ⟨o,ho,λv z=>by rw[hd]at z;cases z⟩
 keep:=λi h h' st k=>⟨st.1,st.2.imp (λ⟨o,e,r⟩=>⟨o,k it (by simp) o e,r⟩) (λ⟨o,e,r⟩=>⟨o,k it (by simp) o e,r⟩)⟩
 item:=by
  intro X hP hw hK hc i pins s Y H E I hf st hg
  subst hP hw hK
  have hi:i<x.cps.size:=hg
  obtain⟨f0,f1,f2,f3,f4,f5⟩:=hf it (by simp)
  have hx:x.cps[i]?=some x.cps[i]:=Array.getElem?_eq_getElem hi
  rcases st.2 with st0 |st0
  .refine PySem.wpAny_pyNext_ascii_item st0 hx λh' st1 sb=>?_
   have I1:Inv X pins Y H {s with heap:=h',toks:=s.toks+1}:=I.turned (t':=s.toks+1) (λb o hb e=>(sb.2 b hb).trans e) f0 f1 f3 f4 f5
   obtain⟨o,ho,hc',hd'⟩:=id st1
   exact⟨_,rfl,Xtc (s:={s with heap:=h',toks:=s.toks+1}) (n := "str_ascii_iterator") ho hc' hd' (by decide) ⟨.str ⟨#[x.cps[i]]⟩,H,I1,⟨_,rfl⟩,⟨rfl,_,hx,rfl⟩,⟨by omega,.inl st1⟩,λb hb=>(hf b hb).1⟩⟩
  .refine PySem.wpAny_pyNext_wide_item st0 hx λh' st1 sb=>?_
   have I1:Inv X pins Y H {s with heap:=h',toks:=s.toks+1}:=I.turned (t':=s.toks+1) (λb o hb e=>(sb.2 b hb).trans e) f0 f1 f3 f4 f5
   obtain⟨o,ho,hc',hd'⟩:=id st1
   exact⟨_,rfl,Xtc (s:={s with heap:=h',toks:=s.toks+1}) (n := "str_iterator") ho hc' hd' (by decide) ⟨.str ⟨#[x.cps[i]]⟩,H,I1,⟨_,rfl⟩,⟨rfl,_,hx,rfl⟩,⟨by omega,.inr st1⟩,λb hb=>(hf b hb).1⟩⟩
 done:=by
  intro X hP hw hK hc i pins s Y H E I hf st hg
  subst hP hw hK
  obtain⟨f0,f1,f2,f3,f4,f5⟩:=hf it (by simp)
  have hx:x.cps[i]?=none:=Array.getElem?_eq_none hg
  rcases st.2 with st0 |st0
  .exact PySem.wpAny_pyNext_ascii_end (I.ok.hd hc) st0 hx λh' eb=>⟨rfl,I.turned (t':=s.toks) (λb o hb e=>eb b o hb e) f0 f1 f3 f4 f5⟩
  .exact PySem.wpAny_pyNext_wide_end (I.ok.hd hc) st0 hx λh' eb=>⟨rfl,I.turned (t':=s.toks) (λb o hb e=>eb b o hb e) f0 f1 f3 f4 f5⟩
 self:=λ_ _ _ _ _ st h=>by
  rcases st.2 with st0 |st0
  .exact PySem.wpAny_pyIter_striter_ascii st0 h
  .exact PySem.wpAny_pyIter_striter_wide st0 h
def Yol (te:TE):TI:=λY H R=>te Y H λv H1=>∃x,v = .str x/\R (Itx x) H1
theorem Ykg {tg l:Expr}{te:TE}(he:PE X l te):PI X tg l (Yol te):=by
 intro pins s Y H R I h
 refine thn (he pins s Y H _ I h) λu s1 ⟨v,H1,I1,r1,q1⟩=>?_
 obtain⟨x,e,q⟩:=q1
 subst e
 obtain⟨t,rfl⟩:=r1
 cases ha:x.cps.all (· < 128)
 .refine PySem.wpAny_pyIter_wide ha ?_
  refine⟨s1.heap.objs.size,[s1.heap.objs.size],_,_,H1,rfl,I1.kept (t':=s1.toks) λb o e=>get?_push_of_some _ e,Xvo s1.heap.objs.size x t,⟨zero_le _,.inr ⟨_,get?_push_size _ rfl,rfl,rfl⟩⟩,λb hb=>?_,q⟩
  have e:b=s1.heap.objs.size:=by simpa using hb
  subst e
  exact I1.fpOk (Nat.le_refl _) (I1.hok.fresh (Nat.le_refl _))
 .refine PySem.wpAny_pyIter_ascii ha ?_
  refine⟨s1.heap.objs.size,[s1.heap.objs.size],_,_,H1,rfl,I1.kept (t':=s1.toks) λb o e=>get?_push_of_some _ e,Xvo s1.heap.objs.size x t,⟨zero_le _,.inl ⟨_,get?_push_size _ rfl,rfl,rfl⟩⟩,λb hb=>?_,q⟩
  have e:b=s1.heap.objs.size:=by simpa using hb
  subst e
  exact I1.fpOk (Nat.le_refl _) (I1.hok.fresh (Nat.le_refl _))
theorem Yj0 {t:TE}{E:DE}(h:Xhv K t E):Xyj K (Yol t) (Yo2 E):=λF0 H0 F H Y M P R e w q=>h F0 H0 F H Y M _ _ e w λd v F' H' p x r=>by
 try dsimp only at p
 split at p
 .rename_i z
  cases (show v=V.str z from r)
  refine⟨z,rfl,q _ _ F' H' p x λF1 H1 s1 s2=>?_⟩
  have hl:((Xmg z).map D.str).length=z.cps.size:=by simp[Xmg]
  rw[hl]
  refine⟨λi hi=>hi,Nat.le_refl _,λi v H2 hi y=>?_⟩
  obtain⟨rfl,c,hc,rfl⟩:=y
  refine⟨.str ⟨#[c]⟩,F1,?_,Ext.refl s2,rfl⟩
  simp[Xmg,hc]
 .exact p.elim
end
section
variable {X:Cx}{K:Frag}
end
section
variable {K:Frag}{c f:Str}{ns:List Str}{j:Nat}{ta:TE}{E:DE}
end
section
variable {X:Cx}{tg elt iter cd:Expr}{scope:Scope}{N:List Str}{ix:List (Option Nat)}{wi:TI}{g:TG}{tc:TT}{te:TE}{pos:Pos}
end
section
variable {K:Frag}{te:TE}{Eo:DO}
end
abbrev T3 (h:Heap)(t:Addr)(a b c:Value):Prop:=h.get? t=some {cls:=.type "tuple",data:=.seq #[a,b,c]}
theorem adr {x y:Nat}(h:x≠y):(show Addr from x)≠(show Addr from y):=h
section
variable {prog:Program}{w:World}{A:Around}{E:Value->Shared->Prop}{s:Shared}
end
section
variable {X:Cx}{K:Frag}{mg:Str->Option Value}
end
section
variable {X:Cx}{K:Frag}
end
abbrev TK:=V->St->Hp->(Bool->Hp->Prop)->Prop
section
variable {X:Cx}{K:Frag}{a e e':Expr}{es:List Expr}{op op':CmpOp}{ops:List CmpOp}{r:R2}{ta te:TE}{tk:TK}{pos:Pos}
end
abbrev DK:=D->Dst->(Bool->Prop)->Prop
section
variable {K:Frag}{ta te:TE}{E Ea:DE}{tk:TK}{k:DK}{R:R2}{r:DR2}
end
def Yfc:DS:=λ_ _=>False
section
variable {X:Cx}{K:Frag}{st:Stmt}{sts:List Stmt}
theorem Xhd:Xfn K Yez Yfc:=λ_ _ _ _ _ _ _ _ _ _ w=>w.elim
end
abbrev P2 (h:Heap)(t:Addr)(a b:Value):Prop:=h.get? t=some {cls:=.type "tuple",data:=.seq #[a,b]}
abbrev Zt (h:Heap)(b:Nat)(v:Value):Prop:=IsZip h (b+4) (b+2) (b+3) v
theorem Xfp {h h':Heap}{a t:Addr}{i:Nat}(x:IsTupIter h a t i)(e:∀o,h.get? a=some o->h'.get? a=some o):IsTupIter h' a t i:=let⟨o,ho,r⟩:=x;⟨o,e _ ho,r⟩
section
variable {prog:Program}{w:World}{A:Around}{E:Value->Shared->Prop}{s:Shared}
theorem Xpt {it t:Addr}{i:Nat}{its:Array Value}{x:Value}{Q:Value->Shared->Prop}(hi:IsTupIter s.heap it t i)(ht:IsTup s.heap t its)(hx:its[i]?=some x)(q:∀g,IsTupIter g it t (i+1)->Heap.SameBut it s.heap g->Q x {s with heap:=g}):wpAny (model prog w) A (Builtin.SmallTypes.nextOf (.ref it)) Q E s:=by
 obtain⟨o,o1,o2,o3⟩:=id hi
 obtain⟨p,p1,_,n,p2⟩:=ht
 unfold Builtin.SmallTypes.nextOf
 refine wpAny_bind (wpAny_callSpecial?_slot (name:=Str.ofString "__next__") hi.typeIs slot_tupleiter_next (wpAny_call_entry slot_tupleiter_next hi.typeIs entry_tupleiter_next ?_ (args_tupleiter_next _)))
 show wpAny _ _ (field (.ref it) 0 >>= _) _ _ s
 refine wpAny_bind (wpAny_field o1 o3 (x:=.ref t) rfl ?_)
 show wpAny _ _ (if (Value.ref t==Value.none)=true then _ else _) _ _ s
 rw[if_neg (show ¬ ((Value.ref t==Value.none)=true) from λz=>Bool.false_ne_true z)]
 show wpAny _ _ (field (.ref it) 1 >>= _) _ _ s
 refine wpAny_bind (wpAny_field o1 o3 (x:=.int i 0) rfl ?_)
 show wpAny _ _ (seqItems? (.ref t) >>= _) _ _ s
 refine wpAny_bind (wpAny_seqItems p1 p2 ?_);simp only[hx,toNat_natCast]
 refine wpAny_bind (wpAny_setField o1 o3 (by simp) (wpAny_pure ⟨x,rfl,wpAny_pure (q _ ?_ (Heap.SameBut.update ..))⟩))
 exact⟨_,get?_update_self _ o1 (Obj.isFreed_of_fields (Obj.data_mapFields o3 _)),(Obj.cls_mapFields ..).trans o2,by rw[Obj.data_mapFields o3];simp[rawInt]⟩
theorem Ya5 {it t:Addr}{i:Nat}{its:Array Value}{Q:Value->Shared->Prop}(hh:A.handled=none)(hi:IsTupIter s.heap it t i)(ht:IsTup s.heap t its)(hx:its[i]?=none)(q:∀g e,Heap.ExtBut it s.heap g->(∃o,g.get? e=some o/\o.cls = .type "StopIteration")->E (.ref e) {s with heap:=g}):wpAny (model prog w) A (Builtin.SmallTypes.nextOf (.ref it)) Q E s:=by
 obtain⟨o,o1,o2,o3⟩:=id hi
 obtain⟨p,p1,_,n,p2⟩:=ht
 unfold Builtin.SmallTypes.nextOf
 refine wpAny_bind (wpAny_callSpecial?_slot (name:=Str.ofString "__next__") hi.typeIs slot_tupleiter_next (wpAny_call_entry slot_tupleiter_next hi.typeIs entry_tupleiter_next ?_ (args_tupleiter_next _)))
 show wpAny _ _ (field (.ref it) 0 >>= _) _ _ s
 refine wpAny_bind (wpAny_field o1 o3 (x:=.ref t) rfl ?_)
 show wpAny _ _ (if (Value.ref t==Value.none)=true then _ else _) _ _ s
 rw[if_neg (show ¬ ((Value.ref t==Value.none)=true) from λz=>Bool.false_ne_true z)]
 show wpAny _ _ (field (.ref it) 1 >>= _) _ _ s
 refine wpAny_bind (wpAny_field o1 o3 (x:=.int i 0) rfl ?_)
 show wpAny _ _ (seqItems? (.ref t) >>= _) _ _ s
 refine wpAny_bind (wpAny_seqItems p1 p2 ?_);simp only[hx,toNat_natCast]
 refine wpAny_bind (wpAny_rule (wpAny_bind (wpAny_setField o1 o3 (by simp) ?_)))
 show wpAny _ _ (newExc (.type "StopIteration") [] >>= _) _ _ _
 refine wpAny_bind ?_;simp only[newTuple,newExc]
 refine wpAny_bind (wpAny_newObj_type ?_ (by size_fits));refine wpAny_bind (m:=firstArgMember _ _) (wpAny_of_eq (a:=Value.none) (by first |rfl | (simp only[firstArgMember];rfl)) ?_)
 refine wpAny_newObj_type ?_ (by size_fits);simp only[raiseNew]
 refine wpAny_bind (wpAny_handled ?_);first |rw[show A.in1.handled=none from hh] |rw[hh]
 exact wpAny_bind (wpAny_pure (wpAny_throw (q _ _ (((Heap.SameBut.update ..).extBut.push _).push _) ⟨_,get?_push_size _ rfl,rfl⟩)))
theorem Yfq {t:Addr}{a b x:Value}{k:Nat}{Q:Unit->Shared->Prop}(ht:P2 s.heap t a b)
  (q:∀g,g.get? t=some {cls:=.type "tuple",data:=.seq ((#[a,b]:Array Value).setIfInBounds k x)}->Heap.SameBut t s.heap g->Q () {s with heap:=g}):wpAny (model prog w) A (updateSeq t (·.setIfInBounds k x)) Q E s:=by
 refine wpAny_updateSeq ht rfl (q _ ?_ (Heap.SameBut.update ..))
 rw[get?_update_self _ ht rfl];simp[Obj.mapSeq]
theorem Xyo {b k:Nat}{l1 l2:Addr}{xs ys:Array Value}{x y a1 a2:Value}{Q:Value->Shared->Prop}(hb:l1<b/\l2<b)
  (Z:Zt s.heap b .none) (I0:P2 s.heap (b+2) (.ref b) (.ref (b+1))) (O0:P2 s.heap (b+3) a1 a2) (w1:IsTupIter s.heap b l1 k) (w2:IsTupIter s.heap (b+1) l2 k)
  (p1:IsTup s.heap l1 xs) (p2:IsTup s.heap l2 ys) (e1:xs[k]?=some x) (e2:ys[k]?=some y)
  (q:∀g,Zt g b (rawInt s.heap.objs.size)->P2 g (b+3) x y->IsTupIter g b l1 (k+1)->IsTupIter g (b+1) l2 (k+1)->P2 g s.heap.objs.size x y->g.objs.size=s.heap.objs.size+1->
   (∀c o,c≠b+4->c≠b+3->c≠b->c≠b+1->s.heap.get? c=some o->g.get? c=some o)->Q (.ref s.heap.objs.size) {s with heap:=g}):
  wpAny (model prog w) A (Builtin.«zip.__next__» ⟨[.ref (b+4)],[]⟩) (λr s'=>∃v,r = .done (.ret v)/\Q v s') E s:=by
 obtain⟨b1,b2⟩:=hb
 have b1:(l1:Nat)<b:=b1
 have b2:(l2:Nat)<b:=b2
 have off:∀l:Nat,l<b->l≠b+4/\l≠b+3/\l≠b:=λl h=>⟨by omega,by omega,by omega⟩
 obtain⟨a14,_,_⟩:=off l1 b1
 obtain⟨a24,a23,a20⟩:=off l2 b2
 show wpAny _ _ (field (.ref (b+4)) 2 >>= _) _ _ _
 refine wpAny_bind (wpAny_field Z rfl (x:=.bool false) rfl ?_)
 show wpAny _ _ (field (.ref (b+4)) 3 >>= _) _ _ _
 refine wpAny_bind (wpAny_field Z rfl (x:=.ref (b+2)) rfl (wpAny_bind (wpAny_seqItems I0 rfl ?_)))
 show wpAny _ _ (Builtin.SmallTypes.ownedTupleIsFree (.ref (b+4)) >>= _) _ _ _
 refine wpAny_bind ?_
 unfold Builtin.SmallTypes.ownedTupleIsFree
 refine wpAny_bind (wpAny_field Z rfl (x:=.none) rfl (wpAny_pure ?_));simp only[if_true]
 refine wpAny_bind (wpAny_rule (wpAny_bind (wpAny_field Z rfl (x:=.ref (b+3)) rfl (wpAny_bind (wpAny_setField_rec Z (by simp) λg1 Z1 f1=>?_)))))
 replace Z1:Zt g1 b .ellipsis:=Z1
 refine wpAny_bind ?_
 simp only[forIn_cons,List.forIn_nil,List.zipIdx_cons,List.zipIdx_nil]
 refine wpAny_bind (wpAny_bind (wpAny_onRaise ?_))
 show wpAny _ _ (Builtin.SmallTypes.nextOf (.ref b) >>= _) _ _ _
 refine wpAny_bind (Xpt (w1.extBut f1.extBut (adr (by omega))) (p1.extBut f1.extBut a14) e1 λg2 v1 f2=>wpAny_pure ?_)
 have O2:P2 g2 (b+3) a1 a2:=f2.extBut _ _ (adr (by omega)) (f1.extBut _ _ (adr (by omega)) O0)
 refine wpAny_bind (wpAny_seqItems O2 rfl (wpAny_bind (Yfq O2 λg3 O3 f3=>wpAny_bind (wpAny_letGo (wpAny_pure ?_)))))
 replace O3:P2 g3 (b+3) x a2:=O3
 refine wpAny_bind (wpAny_bind (wpAny_onRaise ?_))
 show wpAny _ _ (Builtin.SmallTypes.nextOf (.ref (b+1)) >>= _) _ _ _
 refine wpAny_bind (Xpt (((w2.extBut f1.extBut (adr (by omega))).extBut f2.extBut (adr (by omega))).extBut f3.extBut (adr (by omega))) (((p2.extBut f1.extBut a24).extBut f2.extBut a20).extBut f3.extBut a23) e2 λg4 v2 f4=>wpAny_pure ?_)
 have O4:P2 g4 (b+3) x a2:=f4.extBut _ _ (adr (by omega)) O3
 refine wpAny_bind (wpAny_seqItems O4 rfl (wpAny_bind (Yfq O4 λg5 O5 f5=>wpAny_bind (wpAny_letGo (wpAny_pure (wpAny_pure ?_))))))
 replace O5:P2 g5 (b+3) x y:=O5
 refine wpAny_bind (wpAny_seqItems O5 rfl (wpAny_bind (wpAny_newTuple ?_)))
 have size:g5.objs.size=s.heap.objs.size:=by rw[f5.1,f4.1,f3.1,f2.1,f1.1]
 have Z5:Zt g5 b .ellipsis:=f5.extBut _ _ (adr (by omega)) (f4.extBut _ _ (adr (by omega)) (f3.extBut _ _ (adr (by omega)) (f2.extBut _ _ (adr (by omega)) Z1)))
 have keep:∀c o,c≠b+4->c≠b+3->c≠b->c≠b+1->s.heap.get? c=some o->g5.get? c=some o:=λc o c1 c2 c3 c4 e=>
  f5.extBut _ _ c2 (f4.extBut _ _ c4 (f3.extBut _ _ c2 (f2.extBut _ _ c3 (f1.extBut _ _ c1 e))))
 have m1:IsTupIter g5 b l1 (k+1):=((v1.extBut f3.extBut (adr (by omega))).extBut f4.extBut (adr (by omega))).extBut f5.extBut (adr (by omega))
 have m2:IsTupIter g5 (b+1) l2 (k+1):=v2.extBut f5.extBut (adr (by omega))
 have zlt:b+4<g5.objs.size:=lt_size Z5
 show wpAny _ _ (Builtin.SmallTypes.ownedTupleHandOut (.ref (b+4)) (.ref g5.objs.size) >>= _) _ _ _
 refine wpAny_bind ?_
 unfold Builtin.SmallTypes.ownedTupleHandOut
 have Z8:Zt (g5.push {cls:=.type "tuple",data:=.seq #[x,y]}) b .ellipsis:=get?_push_of_some _ Z5
 refine wpAny_bind (wpAny_setField_rec Z8 (by simp) λg9 Z9 f9=>?_)
 replace Z9:Zt g9 b (rawInt g5.objs.size):=Z9
 refine wpAny_setField_rec Z9 (by simp) λg10 Z10 f10=>?_
 replace Z10:Zt g10 b (rawInt g5.objs.size):=Z10
 have up:∀c o,c≠b+4->g5.get? c=some o->g10.get? c=some o:=λc o c1 e=>f10.extBut _ _ c1 (f9.extBut _ _ c1 (get?_push_of_some _ e))
 have T10:P2 g10 g5.objs.size x y:=f10.extBut _ _ (ne_of_gt zlt) (f9.extBut _ _ (ne_of_gt zlt) (get?_push_size _ rfl))
 have sz10:g10.objs.size=g5.objs.size+1:=by rw[f10.1,f9.1,size_push]
 rw[size]at Z10 T10 sz10
 refine wpAny_pure ⟨_,rfl,?_⟩
 show Q (.ref g5.objs.size) _
 rw[size]
 exact q g10 Z10 (up _ _ (adr (by omega)) O5) (Xfp m1 λo e=>up _ o (adr (by omega)) e) (Xfp m2 λo e=>up _ o (adr (by omega)) e) T10 sz10 λc o c1 c2 c3 c4 e=>up c o c1 (keep c o c1 c2 c3 c4 e)
theorem Xyn {b k:Nat}{l1:Addr}{xs:Array Value}{i2:Value}{Q:Fin->Shared->Prop}(hh:A.handled=none)(hb:l1<b)(Z:Zt s.heap b .none)(I0:P2 s.heap (b+2) (.ref b) i2)(w1:IsTupIter s.heap b l1 k)(p1:IsTup s.heap l1 xs)(e1:xs[k]?=none)
  (q:∀g e,(∀c o,c≠b+4->c≠b->s.heap.get? c=some o->g.get? c=some o)->(∃o,g.get? e=some o/\o.cls = .type "StopIteration")->E (.ref e) {s with heap:=g}):wpAny (model prog w) A (Builtin.«zip.__next__» ⟨[.ref (b+4)],[]⟩) Q E s:=by
 have a14:l1≠b+4:=ne_of_lt (lt_of_lt_of_le hb (le_add_right b 4))
 show wpAny _ _ (field (.ref (b+4)) 2 >>= _) _ _ _
 refine wpAny_bind (wpAny_field Z rfl (x:=.bool false) rfl ?_)
 show wpAny _ _ (field (.ref (b+4)) 3 >>= _) _ _ _
 refine wpAny_bind (wpAny_field Z rfl (x:=.ref (b+2)) rfl (wpAny_bind (wpAny_seqItems I0 rfl ?_)))
 show wpAny _ _ (Builtin.SmallTypes.ownedTupleIsFree (.ref (b+4)) >>= _) _ _ _
 refine wpAny_bind ?_
 unfold Builtin.SmallTypes.ownedTupleIsFree
 refine wpAny_bind (wpAny_field Z rfl (x:=.none) rfl (wpAny_pure ?_));simp only[if_true]
 refine wpAny_bind (wpAny_rule (wpAny_bind (wpAny_field Z rfl (x:=.ref (b+3)) rfl (wpAny_bind (wpAny_setField_rec Z (by simp) λg1 Z1 f1=>?_)))))
 replace Z1:Zt g1 b .ellipsis:=Z1
 refine wpAny_bind ?_
 simp only[forIn_cons,List.forIn_nil,List.zipIdx_cons,List.zipIdx_nil]
 refine wpAny_bind (wpAny_bind (wpAny_onRaise ?_))
 show wpAny _ _ (Builtin.SmallTypes.nextOf (.ref b) >>= _) _ _ _
 refine wpAny_bind (Ya5 hh (w1.extBut f1.extBut (adr (by omega))) (p1.extBut f1.extBut a14) e1 λg2 e f2 he=>?_)
 obtain⟨oe,o1,o2⟩:=he
 have Z2:Zt g2 b .ellipsis:=f2 _ _ (adr (by omega)) Z1
 have ez:e≠b+4:=λy=>by subst y;rw[Z2]at o1;cases o1;simp at o2
 exact wpAny_setField_rec Z2 (by simp) λg3 _ f3=>q g3 e (λc o c1 c3 y=>f3.extBut _ _ c1 (f2 _ _ c3 (f1.extBut _ _ c1 y))) ⟨oe,f3.extBut _ _ ez o1,o2⟩
theorem Yh3 {b k:Nat}{l1 l2:Addr}{xs ys:Array Value}{x y a1 a2:Value}{Q:Option Value->Shared->Prop}(hb:l1<b/\l2<b)
  (Z:Zt s.heap b .none) (I0:P2 s.heap (b+2) (.ref b) (.ref (b+1))) (O0:P2 s.heap (b+3) a1 a2) (w1:IsTupIter s.heap b l1 k) (w2:IsTupIter s.heap (b+1) l2 k)
  (p1:IsTup s.heap l1 xs) (p2:IsTup s.heap l2 ys) (e1:xs[k]?=some x) (e2:ys[k]?=some y)
  (q:∀g,Zt g b (rawInt s.heap.objs.size)->P2 g (b+3) x y->IsTupIter g b l1 (k+1)->IsTupIter g (b+1) l2 (k+1)->P2 g s.heap.objs.size x y->g.objs.size=s.heap.objs.size+1->
   (∀c o,c≠b+4->c≠b+3->c≠b->c≠b+1->s.heap.get? c=some o->g.get? c=some o)->Q (some (.ref s.heap.objs.size)) {s with heap:=g}):wpAny (model prog w) A (pyNext (.ref (b+4))) Q E s:=by
 have tz:s.TypeIs (.ref (b+4)) "zip":=⟨_,Z,rfl⟩
 unfold pyNext
 exact wpAny_bind (wpAny_attempt (wpAny_callSpecial?_slot (name:=Str.ofString "__next__") tz F.slot_zip_next (wpAny_call_entry F.slot_zip_next tz F.entry_zip_next
  (Xyo hb Z I0 O0 w1 w2 p1 p2 e1 e2 λg c1 c2 c3 c4 c5 c6 c7=>wpAny_pure (q g c1 c2 c3 c4 c5 c6 c7)) (F.args_zip_next_1 _))))
theorem Xuq {b k:Nat}{l1:Addr}{xs:Array Value}{i2:Value}{Q:Option Value->Shared->Prop}(hh:A.handled=none)(hb:l1<b)(Z:Zt s.heap b .none)(I0:P2 s.heap (b+2) (.ref b) i2)(w1:IsTupIter s.heap b l1 k)(p1:IsTup s.heap l1 xs)(e1:xs[k]?=none)
  (q:∀g,(∀c o,c≠b+4->c≠b->s.heap.get? c=some o->g.get? c=some o)->Q none {s with heap:=g}):wpAny (model prog w) A (pyNext (.ref (b+4))) Q E s:=by
 have tz:s.TypeIs (.ref (b+4)) "zip":=⟨_,Z,rfl⟩
 unfold pyNext
 refine wpAny_bind (wpAny_attempt (wpAny_callSpecial?_slot (name:=Str.ofString "__next__") tz F.slot_zip_next (wpAny_call_entry F.slot_zip_next tz F.entry_zip_next (Xyn hh hb Z I0 w1 p1 e1 λg e k1 k2=>?_) (F.args_zip_next_1 _))))
 obtain⟨o,o1,o2⟩:=k2
 exact wpAny_bind (wpAny_isInstance (T := "StopIteration") (b:=true) ⟨o,o1,o2⟩ isSubtype_stop (wpAny_pure (q _ k1)))
end
abbrev wot (l:Addr):Obj:={cls:=.type "tuple_iterator",data:=.fields #[.ref l,.int 0 0]}
abbrev ztp (h:Heap)(l1:Addr):Heap:=h.push (wot l1)
abbrev ztq (h:Heap)(l1 l2:Addr):Heap:=(ztp h l1).push (wot l2)
abbrev zts (h:Heap)(l1 l2:Addr):Heap:=(ztq h l1 l2).push {cls:=.type "tuple",data:=.seq #[.ref h.objs.size,.ref (ztp h l1).objs.size]}
abbrev ztt (h:Heap)(l1 l2:Addr):Heap:=(zts h l1 l2).push {cls:=.type "tuple",data:=.seq #[.none,.none]}
abbrev ztu (h:Heap)(l1 l2:Addr):Heap:=(ztt h l1 l2).push {cls:=.type "zip",data:=.fields #[.none,.bool false,.bool false,.ref (ztq h l1 l2).objs.size,.ref (zts h l1 l2).objs.size]}
theorem Ych (l1 l2:Addr)(xs ys:Array Value):Meets (Builtin.«zip.__new__» ⟨[.type "zip",.ref l1,.ref l2],[]⟩) (λ_ R s=>IsTup s.heap l1 xs/\IsTup s.heap l2 ys/\R (.ok (.ret (.ref (ztt s.heap l1 l2).objs.size))) {s with heap:=ztu s.heap l1 l2}):=
 .of_wp λprog w A R s h=>by
  obtain⟨hp,g,d,tk,os⟩:=s;obtain⟨p1,p2,h⟩:=h
  have hsub:=sub_zip
  have n1:IsTup (Shared.heap ⟨hp,g,d,tk,os⟩) l1 xs:=p1
  have n2:IsTup (Shared.heap ⟨hp.push (wot l1),g,d,tk,os⟩) l2 ys:=IsTup.push p2 _
  wp_walk using iter_tuple n1,iter_tuple n2
  exact⟨_,rfl,h⟩
theorem Yb3 {prog:Program}{w:World}{A:Around}{E:Value->Shared->Prop}{s:Shared}{l1 l2:Addr}{xs ys:Array Value}{Q:Value->Shared->Prop}(p1:IsTup s.heap l1 xs)(p2:IsTup s.heap l2 ys)
  (q:∀g,Zt g s.heap.objs.size .none->P2 g (s.heap.objs.size+2) (.ref s.heap.objs.size) (.ref (s.heap.objs.size+1))->P2 g (s.heap.objs.size+3) .none .none->IsTupIter g s.heap.objs.size l1 0->IsTupIter g (s.heap.objs.size+1) l2 0->
   (∀c o,s.heap.get? c=some o->g.get? c=some o)->Q (.ref (s.heap.objs.size+4)) {s with heap:=g}):wpAny (model prog w) A (call (.type "zip") [.ref l1,.ref l2]) Q E s:=by
 refine callType_new F.called_zip (by decide) (F.typeCall_zip_2 _ _) (F.newCall_zip_2 _ _) (λo=>F.args_object_init_3 o _ _) F.entry_zip_new (Ych l1 l2 xs ys) ⟨p1,p2,?_⟩
 have y1:(ztp s.heap l1).objs.size=s.heap.objs.size+1:=size_push ..
 have y2:(ztq s.heap l1 l2).objs.size=s.heap.objs.size+2:=by rw[size_push,y1]
 have y3:(zts s.heap l1 l2).objs.size=s.heap.objs.size+3:=by rw[size_push,y2]
 have y4:(ztt s.heap l1 l2).objs.size=s.heap.objs.size+4:=by rw[size_push,y3]
 have on:∀{h:Heap} {o o':Obj} {c:Addr},h.get? c=some o->(h.push o').get? c=some o:=λe=>get?_push_of_some _ e
 have k5:(ztu s.heap l1 l2).get? (ztt s.heap l1 l2).objs.size=some _:=get?_push_size _ rfl
 have k4:(ztu s.heap l1 l2).get? (zts s.heap l1 l2).objs.size=some _:=on (get?_push_size _ rfl)
 have k3:(ztu s.heap l1 l2).get? (ztq s.heap l1 l2).objs.size=some _:=on (on (get?_push_size _ rfl))
 have k2:(ztu s.heap l1 l2).get? (ztp s.heap l1).objs.size=some _:=on (on (on (get?_push_size _ rfl)))
 have k1:(ztu s.heap l1 l2).get? s.heap.objs.size=some _:=on (on (on (on (get?_push_size _ rfl))))
 show _/\_
 rw[y2,y3,y4]at k5
 rw[y3]at k4
 rw[y1,y2]at k3
 rw[y1]at k2
 rw[y4]
 exact⟨⟨_,k5,rfl⟩,q _ k5 k3 k4 ⟨_,k1,rfl,rfl⟩ ⟨_,k2,rfl,rfl⟩ λc o e=>on (on (on (on (on e))))⟩
def Yln (As:DA):DA:=λM P=>As M λds=>match ds with
 | [.tup xs,.tup ys]=>xs.length<=ys.length/\P ((xs.zip ys).map λp=>D.tup [p.1,p.2])
 |_=>False
section
variable {X:Cx}{K:Frag}{mg:Str->Option Value}
def Ypa (K:Frag)(a1 a2:Addr)(xs ys:List V):It:=
 ⟨λi H=>SqT K H a1 xs/\SqT K H a2 ys/\i<xs.length/\i<ys.length,λi H x H'=>∃p y1 y2,x = .ref p/\H p=none/\Xbi H H'/\xs[i]?=some y1/\ys[i]?=some y2/\H' p=some (.tup [y1,y2]),λi H=>SqT K H a1 xs/\xs.length<=i⟩
theorem Yng {b c:Nat}(h:c∈[b+4,b+2,b+3,b,b+1]):c=b+4∨c=b+2∨c=b+3∨c=b∨c=b+1:=by simpa using h
theorem Xyr {P:Program}{w:World}{K:Frag}{elts:List Expr}{x1:Nat}{tpos:Pos}(a1 a2:Addr)(b:Nat)(xs ys:List V)(hb:a1<b/\a2<b):
  Turn P w K (.Tuple elts x1 tpos) (Ypa K a1 a2 xs ys) [b+4,b+2,b+3,b,b+1] (b+4) (λi h=>Zt h b .none/\P2 h (b+2) (.ref b) (.ref (b+1))/\(∃c d,P2 h (b+3) c d)/\IsTupIter h b a1 i/\IsTupIter h (b+1) a2 i) where
 mem:=by simp
 obj:=λi h st c hc=>by
  obtain⟨h1,h2,⟨_,_,h3⟩,⟨o4,q4,_,r4⟩,⟨o5,q5,_,r5⟩⟩:=st
  rcases Yng hc with q |q |q |q |q
  .rw [q];exact⟨_,h1,λv q=>by cases q⟩
  .rw [q];exact⟨_,h2,λv q=>by cases q⟩
  .rw [q];exact⟨_,h3,λv q=>by cases q⟩
  .rw [q];exact⟨_,q4,λv q=>by rw[r4]at q;cases q⟩
  .rw [q];exact⟨_,q5,λv q=>by rw[r5]at q;cases q⟩
 keep:=λi h h' st k=>by
  obtain⟨h1,h2,⟨c,d,h3⟩,h4,h5⟩:=st
  exact⟨k _ (by simp) _ h1,k _ (by simp) _ h2,⟨c,d,k _ (by simp) _ h3⟩,Xfp h4 λo q=>k _ (by simp) o q,Xfp h5 λo q=>k _ (by simp) o q⟩
 item := by
  intro X hP hw hK hc i pins s Y H E I hf st hg
  subst hP hw hK
  obtain⟨h1,h2,⟨c,d,h3⟩,h4,h5⟩:=st
  obtain⟨hq1,hq2,hi1,hi2⟩:=hg
  obtain⟨its1,rv1,p1,hz1⟩:=I.tuple hq1
  obtain⟨its2,rv2,p2,hz2⟩:=I.tuple hq2
  obtain⟨u1,hu1,ru1⟩:=rv1.get (i:=i) (x:=xs[i]) (by simp[hi1])
  obtain⟨u2,hu2,ru2⟩:=rv2.get (i:=i) (x:=ys[i]) (by simp[hi2])
  refine Yh3 hb h1 h2 h3 h4 h5 p1 p2 (x:=u1) (y:=u2) (by simpa using hu1) (by simpa using hu2) λh' g1 g2 g3 g4 g6 g7 g8=>?_
  refine⟨_,rfl,wpAny_letOwnedTupleGo_zip g1 λh'' k1 k2=>?_⟩
  have hf':=I.hok.fresh (Nat.le_refl _)
  have I0:Inv X pins Y (upd H s.heap.objs.size (.tup [xs[i],ys[i]])) {s with heap:=s.heap.push {cls:=.type "tuple",data:=.seq #[u1,u2]},toks:=s.toks}:=
   I.laid (t':=s.toks) (o:=.tup [xs[i],ys[i]]) (λb ob q=>get?_push_of_some _ q) (Nat.le_refl _) ⟨Xdp (n:=2) (by decide),[u1,u2],.cons ru1 (.cons ru2 .nil),⟨_,get?_push_size _ rfl,rfl,_,rfl⟩⟩
  have old:∀c∈[b+4,b+2,b+3,b,b+1],c≠s.heap.objs.size:=λc hc q=>by
   have hlt:c<s.heap.objs.size:=by
    rcases Yng hc with y |y |y |y |y
    .rw [y];exact lt_size h1
    .rw [y];exact lt_size h2
    .rw [y];exact lt_size h3
    .obtain ⟨o,r1,_⟩:=h4
     rw[y];exact lt_size r1
    .obtain ⟨o,r1,_⟩:=h5
     rw[y];exact lt_size r1
   rw[q]at hlt
   exact lt_irrefl _ hlt
  have fe:∀c∈[b+4,b+2,b+3,b,b+1],Xrp X pins (upd H s.heap.objs.size (.tup [xs[i],ys[i]])) c:=λc hc=>by
   obtain⟨q0,q1,q2,q3,q4,q5⟩:=hf c hc
   refine⟨?_,q1,q2,q3,q4,q5⟩
   rw[Xcp]
   .exact q0
   .exact old c hc
  have I1 : Inv X pins Y (upd H s.heap.objs.size (.tup [xs[i],ys[i]])) {s with heap:=h'',toks:=s.toks}:=by
   have:=I0.turnedL (h':=h'') (t':=s.toks) (L:=[b+4,b+3,b,b+1]) (λc o hb q=>?_) (λc hc=>fe c (by
    have hc':c=b+4∨c=b+3∨c=b∨c=b+1:=by simpa using hc
    rcases hc' with y |y |y |y<;>simp[y]))
   .exact this
   .have bz:c≠b+4:=λy=>hb (by simp[y])
    have hb2:h'.get? c=some o:=by
     by_cases y:c=s.heap.objs.size
     .subst y
      rw[get?_push_size _ rfl]at q
      rw[<- q];exact g6
     .rw [Heap.get?_push_ne _ _ _ y]at q
      exact g8 c o bz (λy=>hb (by simp[y])) (λy=>hb (by simp[y])) (λy=>hb (by simp[y])) q
    exact k2.extBut c o bz hb2
  have hT:P2 h' (b+2) _ _:=g8 (b+2) _ (adr (by omega)) (adr (by omega)) (adr (by omega)) (adr (by omega)) h2
  refine⟨.ref s.heap.objs.size,_,I1,rfl,⟨_,xs[i],ys[i],rfl,hf',Xbi.new hf',by simp[hi1],by simp[hi2],Xa3⟩,⟨k1,k2.extBut _ _ (adr (by omega)) hT,⟨_,_,k2.extBut _ _ (adr (by omega)) g2⟩,g3.extBut k2.extBut (adr (by omega)),g4.extBut k2.extBut (adr (by omega))⟩,λc hc=>(fe c hc).1⟩
 done:=by
  intro X hP hw hK hc i pins s Y H E I hf st hg
  subst hP hw hK
  obtain⟨h1,h2,_,h4,_⟩:=st
  obtain⟨hq1,hi⟩:=hg
  obtain⟨its1,rv1,p1,hz1⟩:=I.tuple hq1
  have hl1:=rv1.length
  refine Xuq (I.ok.hd hc) hb.1 h1 h2 h4 p1 (by simp;omega) λh' eb=>⟨rfl,I.turnedL (t':=s.toks) (L:=[b+4,b]) (λc o hb q=>eb c o (λy=>hb (by simp[y])) (λy=>hb (by simp[y])) q) (λc hc=>hf c (by
    have hc':c=b+4∨c=b:=by simpa using hc
    rcases hc' with y |y<;>simp[y]))⟩
 self:=λ_ _ _ _ _ st h=>by
  obtain⟨h1,_⟩:=st
  exact wpAny_pyIter_zip h1 h
def Yld (K:Frag)(ta:TA):TI:=λY H R=>ta Y H λvs H1=>∃a1 a2 xs ys,vs=[.ref a1,.ref a2]/\SqT K H1 a1 xs/\SqT K H1 a2 ys/\R (Ypa K a1 a2 xs ys) H1
theorem Yhm {elts:List Expr}{x1:Nat}{tpos:Pos}{l m:Expr}{ta:TA}{p pos:Pos}(hg:Gl X "zip")(hm:X.mg "zip"=none)(ha:PA X [l,m] ta)(hs:starEach [l,m] X.env=(false,eval l X.env)::starEach [m] X.env:=by rfl)(hp:(backTo pos (starEach [m] X.env)).any (·.1)=false:=by rfl):PI X (.Tuple elts x1 tpos) (.Call (.Name "zip" p) [l,m] [] pos) (Yld X.K ta):=by
 intro pins s Y H R I h
 refine Call_ (Xgn I hg hm PyProof.Rows.boot_zip (PyProof.Rows.callWith_type1 (thn (ha pos pins s Y H _ I h) λus s1 ⟨vs,H1,I1,r1,q1⟩=>?_) hs hp))
 obtain⟨a1,a2,xs,ys,e,hq1,hq2,q⟩:=q1
 subst e
 obtain⟨u1,u2,rfl,ru1,ru2⟩:=Ycl r1
 cases ru1
 cases ru2
 obtain⟨its1,rv1,pt1,hz1⟩:=I1.tuple hq1
 obtain⟨its2,rv2,pt2,hz2⟩:=I1.tuple hq2
 refine Yb3 pt1 pt2 λh' g1 g2 g3 g4 g5 g7=>?_
 have I2:Inv X pins Y H1 {s1 with heap:=h',toks:=s1.toks}:=I1.kept (t':=s1.toks) g7
 refine wpAny_pyIter_zip (s:={s1 with heap:=h',toks:=s1.toks}) g1 ?_
 refine⟨s1.heap.objs.size+4,_,_,_,H1,rfl,I2,Xyr a1 a2 s1.heap.objs.size xs ys ⟨pt1.lt,pt2.lt⟩,⟨g1,g2,⟨_,_,g3⟩,g4,g5⟩,λc hc=>?_,q⟩
 have hle:s1.heap.objs.size<=c:=by
  rcases Yng hc with y |y |y |y |y<;>(rw[y];first |exact le_add_right _ _ |exact Nat.le_refl _)
 exact I1.fpOk hle (I1.hok.fresh hle)
theorem Yg4 {a:TA}{As:DA}(h:Xiy K a As):Xyj K (Yld K a) (Yln As):=λF0 H0 F H Y M P R e w q=>h F0 H0 F H Y M _ _ e w λds vs F' H' p x r=>by
 try dsimp only at p
 split at p
 .rename_i xs ys
  obtain⟨le1,p⟩:=p
  obtain⟨v1,v2,rfl,⟨a1,us1,rfl,h1,h2⟩,⟨a2,us2,rfl,k1,k2⟩⟩:=Xz4 r
  have hl1:=h2.length
  have hl2:=k2.length
  refine⟨a1,a2,us1,us2,rfl,x.fh.seqT h1,x.fh.seqT k1,q _ _ F' H' p x λF1 H1 s1 s2=>?_⟩
  have hq1:=(s1.trans s2).seqT h1
  have hq2:=(s1.trans s2).seqT k1
  have hlen:((xs.zip ys).map λp=>D.tup [p.1,p.2]).length=xs.length:=by simp;omega
  rw[hlen]
  refine⟨λi hi=>⟨hq1,hq2,by omega,by omega⟩,⟨hq1,by omega⟩,λi x H2 hi y=>?_⟩
  obtain⟨t,y1,y2,rfl,ht,sm,hy1,hy2,ht2⟩:=y
  obtain⟨d1,hd1,rd1⟩:=h2.get' hy1
  obtain⟨d2,hd2,rd2⟩:=k2.get' hy2
  refine⟨.tup [d1,d2],upd F1 t (.tup [y1,y2]),?_,Ext.new s2 ht sm ht2,t,[y1,y2],rfl,.inl (.inl Xa3),?_⟩
  .rw [getElem?_map,List.getElem?_zip_eq_some (z:=(d1,d2)) |>.mpr ⟨hd1,hd2⟩]
   rfl
  .exact ⟨_,_,rfl,(rd1.mono s1).mono (Xbi.upd' (s2.free ht)),_,_,rfl,(rd2.mono s1).mono (Xbi.upd' (s2.free ht)),rfl⟩
 .exact p.elim
end
section
variable {X:Cx}{K:Frag}{x:Str}{kds:List (Str×D)}{i:Expr}{ty:TE}{pos pos':Pos}
end
section
variable {δ:Model}{A:Around}{E:Value->Shared->Prop}{s:Shared}
end
section
variable {X:Cx}{pins:List (Addr×Obj)}{Y:St}{H:Hp}{s:Shared}{scope:Scope}{N:List Str}{ix:List (Option Nat)}{fp:List Addr}{z:Str}
end
section
variable {X:Cx}{tg elt iter:Expr}{scope:Scope}{N:List Str}{ix:List (Option Nat)}{wi:TI}{g:TG}{te:TE}{pos:Pos}{z:Str}
end
section
variable {X:Cx}
end
section
variable {K:Frag}
end
def g1 {α:Type}(l r:List α):List α->List α->List α
 | [a],[b]=>a::(l++b::r)
 |_,_=>[]
section
variable {P:Program}{w:World}{K:Frag}{mg:Str->Option Value}{base:Heap}{x:Str}{k:Nat}{ps:List Str}{sp:Sp}{d0 d1:V}
end
section
variable {X:Cx}{x:Str}{k:Nat}{ps:List Str}{sp:Sp}{d0 d1:V}{e c:Expr}{t tk:TA}{p pos kp:Pos}{nm:Str}
end
section
variable {K:Frag}
end
section
variable {K:Frag}
end
section
variable {K:Frag}{F0 H0 F H F' H':Hp}{Y:St}{M:Dst}{A:Nat->List Addr}{i:Nat}
theorem ER.swap {t t':OV}{v:V}{Bn:List Addr}(e:ER K F0 H0 F H Y M A)(hs:M[i]?=some (some (.own t)))(hσ:Y[i]?=some (some v))(sF:Xbi F F')(sH:Xbi F' H')(keep:∀b o,b∉A i->H b=some o->H' b=some o)
  (nofz:∀b o,F b=none->H b=some o->imm o=false->b∉A i->F' b=none) (r:Xm0 K F' H' t' v Bn) (nd:Bn.Nodup) (nw:∀b∈Bn,F' b=none/\(b∈A i∨H b=none)):Xfo K F0 H0 F' H' Y (M.set i (some (.own t'))):=by
 have hlt:i<M.length:=(List.getElem?_eq_some_iff.mp hs).1
 refine⟨λj=>if j=i then Bn else A j,?_⟩
 refine⟨by simp[e.len],⟨e.ext.ff.trans sF,λb o h=>?_,sH,λb o h1 h2 h3=>?_⟩,λj t hj=>?_,λj d hj=>?_,λj=>?_,λj k b hjk h1 h2=>?_,λj b hb=>?_⟩
 .exact keep b o (λz=>by rw[(e.new i b z).2.1]at h;cases h) (e.ext.hh _ _ h)
 .exact nofz b o (e.ext.no b o h1 h2 h3) (e.ext.hh _ _ h2) h3 (λz=>by rw[(e.new i b z).2.1]at h2;cases h2)
 .try dsimp only
  by_cases z:j=i
  .subst z
   rw[if_pos rfl]
   rw[getElem?_set_self hlt]at hj
   cases hj
   exact⟨_,hσ,r⟩
  .rw [if_neg z]
   rw[getElem?_set_ne (Ne.symm z)]at hj
   obtain⟨u,h1,h2⟩:=e.own j t hj
   exact⟨u,h1,h2.frame sF λb hb xs q=>keep b _ (λy=>e.dis j i b z hb y) q⟩
 .by_cases z:j=i
  .subst z
   rw[getElem?_set_self hlt]at hj
   cases hj
  .rw [getElem?_set_ne (Ne.symm z)]at hj
   exact e.bw j d hj
 .try dsimp only
  split
  .exact nd
  .exact e.nod j
 .try dsimp only at h1 h2
  have key:∀k,k≠i->b∈Bn->b∈A k->False:=λk hk z1 z2=>by
   rcases (nw b z1).2 with y |y
   .exact e.dis k i b hk z2 y
   .obtain ⟨_,_,xs,q,_⟩:=e.new k b z2
    rw[y]at q;cases q
  split at h1
  .split at h2
   .omega
   .rename_i z1 z2
    exact key k z2 h1 h2
  .split at h2
   .rename_i z1 z2
    exact key j z1 h2 h1
   .exact e.dis j k b hjk h1 h2
 .try dsimp only at hb
  split at hb
  .have hh:H0 b=none:=by
    rcases (nw b hb).2 with y |y
    .exact (e.new i b y).2.1
    .exact e.ext.hh.free y
   exact⟨(nw b hb).1,hh,r.isl b hb⟩
  .rename_i z
   obtain⟨h1,h2,xs,h3,himm⟩:=e.new j b hb
   have hni:b∉A i:=λy=>e.dis j i b z hb y
   exact⟨nofz b _ h1 h3 himm hni,h2,xs,keep b _ hni h3,himm⟩
end
def Xzw (c:Str)(ns:List Str)(i j:Nat)(c2:Str)(ns2:List Str)(n:Nat)(sp:DMo)(As:DA):DS:=λDe M=>match M[i]? with
 |some (some (.own (.ob o c' ns' ts)))=>c'=c/\ns'=ns/\∃o2 ts2,ts[j]?=some (.ob o2 c2 ns2 ts2)/\As M λds=>ds.length+1=n/\sp ts2 ds λts'=>De.nx (M.set i (some (.own (.ob o c ns (ts.set j (.ob o2 c2 ns2 ts'))))))
 |_=>False
section
variable {K:Frag}{c f m c2:Str}{ns ns2:List Str}{i j:Nat}
theorem Yc2 {n:Nat}{sp:DMo}{a:TA}{As:DA}(CV:ClsV K c ns)(CV2:ClsV K c2 ns2)(hf:ns[j]?=some f)(hm:m∉ns2)(ha:Xiy K a As):Xfn K (Xov (Xm8 K c2 m (spM K n c2 ns2 sp) (Ygo K (Xm7 i) f) a)) (Xzw c ns i j c2 ns2 n sp As):=λF0 H0 F H Y M De En e l w=>by
 unfold Xzw at w
 split at w
 .rename_i o c' ns' ts hs
  obtain⟨rfl,rfl,o2,ts2,hx,w⟩:=w
  obtain⟨A,e⟩:=e
  obtain⟨v,hv,p,C,dx,vs,B,rfl,eA,h0,ho,h1,h2,hl,h3⟩:=e.own i _ hs
  obtain⟨C',hC',cl,na⟩:=CV.ex
  rw[h0]at hC'
  cases hC'
  obtain⟨v0,A1,B0,A2,f1,rfl,f3,f4⟩:=h3.focus hx
  obtain⟨p2,C2,dx2,vs2,B2,rfl,rfl,h02,ho2,h12,h22,hl2,h32⟩:=f3
  refine⟨C2,h02,_,hv,p,C,dx,_,.ref p2,rfl,h1,cl,na f (mem_of_getElem? hf),(by rw[Xoc CV.nd hf];exact f1),p2,dx2,_,rfl,h12,Xfm hm,?_⟩
  refine ha F0 H0 F H Y M _ _ ⟨A,e⟩ w λds us F1 H1 w1 x1 r1=>?_
  show spM K n c2 ns2 sp (V.ref p2::(us++[])) H1 (λ_ H2=>En.nx Y H2) E0
  rw[append_nil]
  have e1:=e.on x1
  have hnd:=e.nod i
  rw[eA]at hnd
  obtain⟨n1,n2⟩:=nodup_cons.mp hnd
  obtain⟨n3,n4⟩:=nodup_cons.mp n2
  obtain⟨m1,m2,m3⟩:=nodup_append.mp n4
  obtain⟨q1,q2,q3⟩:=nodup_append.mp m2
  have inA:∀b,b∈p2::dx2::B2->b∈A i:=λb hb=>by
   rw[eA]
   exact mem_cons_of_mem _ (mem_cons_of_mem _ (mem_append_right _ (mem_append_left _ hb)))
  refine⟨by rw[length_cons,<- r1.length];exact w1.1,F1,p2,C2,dx2,ts2,vs2,B2,us,ds,_,rfl,h02,e1.ext.fh,x1.hh _ _ h12,x1.hh _ _ h22,hl2,h32.frame x1.ff λb _ xs z=>x1.hh _ _ z,q1,λb hb=>(e1.new i b (inA b hb)).1,r1,w1.2,?_⟩
  intro ts' F' H' dx' vs' B' pt sF sH keep nofz hp' hd' hl' hB' nd' nw'
  have off:∀b,b∈A1++A2->b∉p2::dx2::B2:=λb hb z=>by
   rcases mem_append.mp hb with y |y
   .exact m3 b y b (mem_append_left _ z) rfl
   .exact q3 b z b y rfl
  have hpn:p∉p2::dx2::B2:=λz=>n1 (mem_cons_of_mem _ (mem_append_right _ (mem_append_left _ z)))
  have hdn:dx∉p2::dx2::B2:=λz=>n3 (mem_append_right _ (mem_append_left _ z))
  have f4':=f4 F' H' (.ob o2 c2 ns2 ts') (.ref p2) (p2::dx'::B') (x1.ff.trans sF) (λb hb xs z=>keep b _ (off b hb) (x1.hh _ _ z)) ⟨p2,C2,dx',vs',B',rfl,rfl,h02,ho2,hp',hd',hl',hB'⟩
  rw[Xd9 f1]at f4'
  have fresh:∀b,b∈p2::dx'::B'->b∉p2::dx2::B2->H1 b=none:=λb hb hn=>by
   rcases (nw' b hb).2 with y |y
   .exact absurd y hn
   .exact y
  have hold:∀b,b∈A i->∃xs,H1 b=some xs:=λb hb=>by
   obtain⟨_,_,xs,q,_⟩:=e1.new i b hb
   exact⟨xs,q⟩
  have hin:∀b,b∈p::dx::(A1++A2)->b∈A i:=λb hb=>by
   rw[eA]
   rcases mem_cons.mp hb with y |y
   .simp [y]
   .rcases mem_cons.mp y with y |y
    .simp [y]
    .rcases mem_append.mp y with y |y<;>simp[y]
  have apart:∀b,b∈p::dx::(A1++A2)->b∉p2::dx'::B':=λb hb z=>by
   have hn:b∉p2::dx2::B2:=by
    rcases mem_cons.mp hb with y |y
    .rw [y];exact hpn
    .rcases mem_cons.mp y with y |y
     .rw [y];exact hdn
     .exact off b y
   obtain⟨xs,hxs⟩:=hold b (hin b hb)
   rw[fresh b z hn]at hxs
   cases hxs
  refine l.nx F' H' Y _ (e1.swap hs hv sF sH (λb o' hb z=>keep b o' (λy=>hb (inA b y)) z) (λb o' z1 z2 z3 z4=>nofz b o' z1 z2 z3 λy=>z4 (inA b y)) (t':=.ob o c' ns' (ts.set j (.ob o2 c2 ns2 ts'))) (Bn:=p::dx::(A1++((p2::dx'::B')++A2)))
   ⟨p,C,dx,vs,A1++((p2::dx'::B')++A2),rfl,rfl,h0,ho,keep _ _ hpn (x1.hh _ _ h1),keep _ _ hdn (x1.hh _ _ h2),by rw[length_set];exact hl,f4'⟩ ?_ ?_) pt
  .have nm:(A1++((p2::dx'::B')++A2)).Nodup:=by
    refine nodup_append.mpr ⟨m1,nodup_append.mpr ⟨nd',q2,λx hx y hy z=>?_⟩,λx hx y hy z=>?_⟩
    .exact apart y (mem_cons_of_mem _ (mem_cons_of_mem _ (mem_append_right _ hy))) (z▸hx)
    .rcases mem_append.mp hy with y' |y'
     .exact apart x (mem_cons_of_mem _ (mem_cons_of_mem _ (mem_append_left _ hx))) (z▸y')
     .exact m3 x hx y (mem_append_right _ y') z
   have mid:∀b,b∈A1++((p2::dx'::B')++A2)->b∈A1++A2∨b∈p2::dx'::B':=λb hb=>by
    rcases mem_append.mp hb with y |y
    .exact .inl (mem_append_left _ y)
    .rcases mem_append.mp y with y |y
     .exact .inr y
     .exact .inl (mem_append_right _ y)
   have up:∀b,b∈A1++A2->b∈A1++((p2::dx2::B2)++A2):=λb hb=>by
    rcases mem_append.mp hb with y |y
    .exact mem_append_left _ y
    .exact mem_append_right _ (mem_append_right _ y)
   refine nodup_cons.mpr ⟨λz=>?_,nodup_cons.mpr ⟨λz=>?_,nm⟩⟩
   .rcases mem_cons.mp z with z |z
    .exact n1 (by rw[z];exact mem_cons_self)
    .rcases mid p z with y |y
     .exact n1 (mem_cons_of_mem _ (up p y))
     .exact apart p mem_cons_self y
   .rcases mid dx z with y |y
    .exact n3 (up dx y)
    .exact apart dx (mem_cons_of_mem _ mem_cons_self) y
  .intro b hb
   have old:b∈p::dx::(A1++A2)->F' b=none/\(b∈A i∨H1 b=none):=λy=>by
    have hn:b∉p2::dx2::B2:=by
     rcases mem_cons.mp y with y |y
     .rw [y];exact hpn
     .rcases mem_cons.mp y with y |y
      .rw [y];exact hdn
      .exact off b y
    obtain⟨g1,g2,xs,g3,g4⟩:=e1.new i b (hin b y)
    exact⟨nofz b _ g1 g3 g4 hn,.inl (hin b y)⟩
   rcases mem_cons.mp hb with y |y
   .exact old (by rw[y];exact mem_cons_self)
   .rcases mem_cons.mp y with y |y
    .exact old (by rw[y];exact mem_cons_of_mem _ mem_cons_self)
    .rcases mem_append.mp y with y |y
     .exact old (mem_cons_of_mem _ (mem_cons_of_mem _ (mem_append_left _ y)))
     .rcases mem_append.mp y with y |y
      .refine ⟨(nw' b y).1,?_⟩
       rcases (nw' b y).2 with z |z
       .exact .inl (inA b z)
       .exact .inr z
      .exact old (mem_cons_of_mem _ (mem_cons_of_mem _ (mem_append_right _ y)))
 .exact w.elim
end
end L2
namespace PySem
def Xrq (its:Array Value)(P:Nat->Value->Prop)(acc:Array Value)(i:Nat):Prop:=∃new:Array Value,acc=its++new/\ItemsOf P new i
section
variable {prog:Program}{w:World}{A:Around}{R:Result->Shared->Prop}{I:Addr}{fp wr:List Addr}{G:Array GenState->Array GenState->Prop}{n:Nat}{P:Nat->Value->Prop}{St:Nat->Shared->Prop}
theorem Xvl (its:Array Value)(W:WalksS prog w A.in1 I fp wr G n P St)(hn:its.size+n<=sizeLine)(S:Addr)(hSf:S∉fp)(res:Value):
  ∀(k i:Nat) (s:Shared) (acc:Array Value) (c:Nat),n-i=k->i<=n->St i s->s.heap.get? S=some {cls:=.type "list",dict:=none,data:=.seq acc c,slots:=#[]}->Xrq its P acc i->
  (∀s' acc' c',Moved (S::wr) G s s'->s'.heap.get? S=some {cls:=.type "list",dict:=none,data:=.seq acc' c',slots:=#[]}->Xrq its P acc' n->R (.ok (.ret res)) s')->
  codeAny (model prog w) A (.builtin "list.extend.loop" ⟨[.ref S,.ref I,res],[]⟩) R s:=by
 have nw:S∉wr:=λh=>hSf (W.sub _ h)
 have up:∀b∈wr,b∈S::wr:=λb hb=>mem_cons_of_mem _ hb
 intro k
 induction k with
 |zero=>
  intro i s acc c hk hi hst hS hacc hR
  obtain rfl:i=n:=by omega
  refine codeAny_builtin F.entry_extend_loop ?_
  rw[Around.under_plainId F.plain_extend_loop _]
  show wpAny _ A.in1 (pyNext (.ref I) >>= _) _ _ s
  exact wpAny_bind (W.done s _ _ hst λs' hm=>wpAny_pure (hR s' acc c (hm.mono up) (hm.heap S _ nw hS) hacc))
 |succ k ih=>
  intro i s acc c hk hi hst hS hacc hR
  have hlt:i<n:=by omega
  refine codeAny_builtin F.entry_extend_loop ?_
  rw[Around.under_plainId F.plain_extend_loop _]
  show wpAny _ A.in1 (pyNext (.ref I) >>= _) _ _ s
  refine wpAny_bind (W.item i s _ _ hlt hst λv s' hP hst' hm=>?_)
  have hS':=hm.heap S _ nw hS
  obtain⟨new,rfl,hnew⟩:=hacc
  have hsz:(its++new).size=its.size+i:=by rw[size_append,hnew.1]
  show wpAny _ A.in1 (updateSeq S (·.push v) >>= _) _ _ _
  refine wpAny_bind ?_
  refine wpAny_updateSeq hS' rfl (wpAny_pure ⟨plainId_quiet F.plain_extend_loop _,ih (i+1) _ ((its++new).push v) _ (by omega) hlt (W.frame _ s' _ s'.toks hst' (Nat.le_refl _) λb hb o e=>?_) (get?_update_self _ hS' rfl) ⟨new.push v,by simp,hnew.push hP⟩ λs'' acc' c' hm'' hS'' hacc'=>?_⟩)
   (by rw[hsz];omega) (by show ((its++new).push v).size<=sizeLine+1;rw[Array.size_push,hsz];omega)
  .exact (get?_update_other _ _ (λh:S=b=>hSf (by rw[h];exact hb))).trans e
  .refine hR s'' acc' c' (Moved.trans W.gtrans ((hm.mono up).then_heap (by first |exact Nat.le_refl _ |exact le_succ _ |omega) λb o hb e=>?_) hm'') hS'' hacc'
   exact (get?_update_other _ _ (λh:S=b=>hb (by rw[h];exact mem_cons_self))).trans e
end
section
variable {prog:Program}{w:World}{A:Around}{E:Value->Shared->Prop}{s:Shared}
theorem Xk9 {R:Result->Shared->Prop}(hh:A.handled=none)(x:Str)(t:Tok)(S:Addr)(res:Value)(its:Array Value)(c₀:Nat)(hS:s.heap.get? S=some {cls:=.type "list",data:=.seq its c₀})
  (hR:∀h' tk acc' c',(∀b o,b≠S->s.heap.get? b=some o->h'.get? b=some o)->h'.get? S=some {cls:=.type "list",dict:=none,data:=.seq acc' c',slots:=#[]}->
   Xrq its (SignAt x) acc' x.cps.size->R (.ok (.ret res)) {s with heap:=h',toks:=tk}) (hn:its.size+x.cps.size<=sizeLine):
  wpAny (model prog w) A.in1 (Builtin.List.listExtendWith (.ref S) (.str x t) res)
   (λfin s'=>match fin with | .done f=>R (.ok f) s' | .again c'=>c'.quiet=true/\codeAny (model prog w) A c' R s') (λe s'=>R (.error e) s') s:=by
 have hSI:S≠s.heap.objs.size:=ne_of_lt (lt_size hS)
 have hSf:S∉[s.heap.objs.size]:=λhm=>hSI (mem_singleton.mp hm)
 unfold Builtin.List.listExtendWith
 refine wpAny_bind (wpAny_typeOf (T := "str") (v:=.str x t) rfl ?_)
 have h1:Builtin.List.listSameRef (.ref S) (.str x t)=false:=rfl
 have h2:(Value.type "str"==Value.type "list")=false:=by decide
 have h3:(Value.type "str"==Value.type "tuple")=false:=by decide
 simp only[h1,h2,h3,Bool.or_false,false_eq_true,if_false]
 refine wpAny_bind (wpAny_pyIter_str λo St W hst=>?_)
 refine wpAny_bind (wpAny_holding ?_)
 unfold Builtin.List.listLengthHint
 refine wpAny_bind (wpAny_specialOf (T := "str") (v:=.str x t) rfl F.str_len ?_)
 wp_delta
 refine wpAny_bind (wpAny_isInstance (T := "str") (v:=.str x t) (b:=true) rfl (by rw[isSubtype_type];kernel_rfl) ?_)
 show wpAny _ _ (typeOf (Value.str x t) >>= _) _ _ _
 refine wpAny_bind (wpAny_typeOf (T := "str") (v:=.str x t) rfl ?_)
 refine wpAny_pure ?_
 rw[if_neg (by decide)]
 refine wpAny_pure ⟨plainId_quiet F.plain_extend_loop _,Xvl its (W A.in1 hh).toS hn _ hSf _ x.cps.size 0 _ _ _ rfl (zero_le _) hst (get?_push_of_some _ hS) ⟨#[],by simp,ItemsOf.nil _⟩ λs' acc' c' hm hS' hacc=>?_⟩
 rw[Moved.eq_with hm]
 refine hR s'.heap s'.toks acc' c' (λb ob hb e=>hm.heap b ob (λhmem=>?_) (get?_push_of_some _ e)) hS' hacc
 rcases mem_cons.mp hmem with e' |hmem
 .exact hb e'
 .exact absurd (lt_size e) (by rw[mem_singleton.mp hmem];exact lt_irrefl _)
end
end PySem
namespace L2
open PySem PySem.Spec PyProof.Rows
section
variable {X:Cx}
def rExtT:V->List V->Hp->VK->Prop:=λx vs H Q=>∃l t xs,x = .ref l/\vs=[.str t]/\H l=some (.lst xs)/\xs.length+t.cps.size<=sizeLine/\Q .non (upd H l (.lst (xs++(Xmg t).map V.str)))
theorem Xyq {x:Str}{acc:Array Value}(h:ItemsOf (SignAt x) acc x.cps.size):Xcd ((Xmg x).map V.str) acc.toList:=by
 have key:∀(cs:List Nat) (us:List Value),us.length=cs.length->(∀(j:Nat) (u:Value),us[j]?=some u->∃c t,cs[j]?=some c/\u=Value.str ⟨#[c]⟩ t)->Xcd ((cs.map λc=>(⟨#[c]⟩:Str)).map V.str) us:=by
  intro cs
  induction cs with
  |nil=>
   intro us hl _
   rw[List.length_eq_zero_iff.mp hl]
   exact .nil
  |cons c cs ih=>
   intro us hl hu
   match us,hl with
   |u::us,hl=>
    obtain⟨c',t,e1,e2⟩:=hu 0 u rfl
    cases e1
    exact .cons ⟨t,e2⟩ (ih us (by simpa using hl) λj w hj=>hu (j+1) w hj)
 refine key x.cps.toList acc.toList (by simpa using h.1) λj u hj=>?_
 obtain⟨c,t,e1,e2⟩:=h.2 j u (by simpa using hj)
 exact⟨c,t,by simpa using e1,e2⟩
theorem Yh7 (hc:X.calm=true):MtM X "list.extend" rExtT:=by
 intro pins s Y H x vs v us Q I rx rv h
 obtain⟨l,t,xs,rfl,rfl,hH,hz,q⟩:=h
 cases rx
 obtain⟨u,rfl,ru⟩:=rv.one
 obtain⟨tk,rfl⟩:=ru
 obtain⟨z,its,n,r,hl,e⟩:=I.lstM hH
 refine wpAny_call (codeAny_call_builtin F.slot_list_extend.plain F.entry_list_extend (F.slot_list_extend.check _ _ _ _ _ _ _ _ ⟨_,e,rfl⟩ (F.args_list_extend_2 _ _) ?_))
 show wpAny (model X.prog X.w) X.A.in1 (Builtin.List.listExtendWith (.ref l) (.str t tk) .none) _ _ s
 refine Xk9 (A:=X.A) (R:=wants (EP X pins Y Q) X.xe) (I.ok.hd hc) t tk l .none its.toArray n e (λh' tk' acc' c' hk hS' hacc=>?_) (by rw[size_toArray];omega)
 obtain⟨new,rfl,hnew⟩:=hacc
 have hv:=r.append (Xyq hnew)
 have eS:its.toArray++new=(its++new.toList).toArray:=by simp
 rw[eS]at hS'
 have hln:=hv.length
 have hz':(xs++(Xmg t).map V.str).length<=sizeLine:=by
  rw[length_append,length_map,Xmg,length_map,length_toList]
  exact hz
 exact⟨.non,_,I.write (x:=l) (e:=l) (o:=.lst (xs++(Xmg t).map V.str)) (by rw[hH];exact trivial) (.inl rfl) (λb u hb hu=>hk b u hb hu) ⟨_,hS'⟩ ⟨hz',its++new.toList,c',hv,hS'⟩,rfl,q⟩
def rStrip:V->List V->Hp->VK->Prop:=λx vs H Q=>∃a b,x = .str a/\vs=[.str b]/\a.length<=sizeLine/\Q (.str (Txt.stripChars a b)) H
theorem Yd5:MtR X "str.strip" rStrip:=by
 intro pins s Y H x xs v us Q I rx r h
 obtain⟨a,b,rfl,rfl,hz,q⟩:=h
 obtain⟨t,rfl⟩:=rx
 obtain⟨u,rfl,ru⟩:=Xhx r
 obtain⟨t',rfl⟩:=ru
 exact PySem.W.KXw.stripChars rfl hz λt'' k=>⟨.str _,H,I.tok k,⟨_,rfl⟩,q⟩
end
def Yf4 (E Ec:DE):DE:=λM P=>E M λd=>match d with
 | .str x=>Ec M λl=>match l with
  | .str y=>x.length<=1000000/\P (.str (Txt.stripChars x y))
  |_=>False
 |_=>False
def Xz0 (c:Str)(ns:List Str)(i j:Nat)(E:DE):DS:=λDe M=>match M[i]? with
 |some (some (.own (.ob o c' ns' ts)))=>c'=c/\ns'=ns/\∃us,ts[j]?=some (.nl us)/\E M λd=>match d with
  | .str x=>us.length+x.cps.size<=1000000/\De.nx (M.set i (some (.own (.ob o c ns (ts.set j (.nl (us++(Xmg x).map λs=>.fz (.str s))))))))
  |_=>False
 |_=>False
section
variable {K:Frag}{c f:Str}{ns:List Str}{i j:Nat}
theorem Ydb {te ta:TE}{E El:DE}(h:Xhv K te E)(ha:Xhv K ta El):Xey K (tBM K "str" rStrip te (Xla ta Xvq)) (Yf4 E El):=λF0 H0 F H Y M P Q e w q=>h F0 H0 F H Y M _ _ e w λd v F1 H1 w1 x1 r1=>by
 try dsimp only at w1
 split at w1
 .rename_i x
  cases (show v=V.str x from r1)
  refine⟨rfl,ha F0 H0 F1 H1 Y M _ _ (e.on x1) w1 λl u F2 H2 w2 x2 r2=>?_⟩
  try dsimp only at w2
  split at w2
  .rename_i y
   cases (show u=V.str y from r2)
   exact⟨x,y,rfl,rfl,Xdp w2.1,q _ _ F2 H2 w2.2 (x1.trans x2) rfl⟩
  .exact w2.elim
 .exact w1.elim
theorem Xsk {F:Hp}:∀(ss:List Str),Xb6 K F (ss.map D.str) (ss.map V.str)
 | []=>rfl
 |s::ss=>⟨_,_,rfl,rfl,Xsk ss⟩
theorem Yc3 {te:TE}{E:DE}(CV:ClsV K c ns)(hf:ns[j]?=some f)(h:Xey K te E):Xfn K (Xov (tBM K "list" rExtT (Ygo K (Xm7 i) f) (Xla te Xvq))) (Xz0 c ns i j E):=λF0 H0 F H Y M De En e l w=>by
 obtain⟨A,e⟩:=e
 unfold Xz0 at w
 split at w
 .rename_i o c' ns' ts hs
  obtain⟨rfl,rfl,us,hx,w⟩:=w
  obtain⟨v,hv,a,C,dx,vs,B,rfl,eA,h0,ho,h1,h2,hl,h3⟩:=e.own i _ hs
  obtain⟨C',hC',cl,na⟩:=CV.ex
  rw[h0]at hC'
  cases hC'
  obtain⟨v0,A1,B0,A2,f1,rfl,f3,f4⟩:=h3.focus hx
  obtain⟨b0,ws,B1,rfl,rfl,hc,hws⟩:=f3
  refine⟨_,hv,a,C,dx,_,.ref b0,rfl,h1,cl,na f (mem_of_getElem? hf),(by rw[Xoc CV.nd hf];exact f1),.inl ⟨rfl,_,SqL.of hc⟩,?_⟩
  refine h F0 H0 F H Y M _ _ ⟨A,e⟩ w λd u F1 H1 p x1 ru=>?_
  try dsimp only at p
  split at p
  .rename_i x
   cases (show u=V.str x from ru)
   have e1:=e.on x1
   have hwl:=hws.length
   refine⟨b0,x,ws,rfl,rfl,x1.hh _ _ hc,Xdp (by omega),?_⟩
   have hnd:=e.nod i
   rw[eA]at hnd
   obtain⟨n1,n2⟩:=nodup_cons.mp hnd
   obtain⟨n3,n4⟩:=nodup_cons.mp n2
   have hbA:b0∈A i:=by rw[eA];simp
   obtain⟨m1,m2,m3⟩:=nodup_append.mp n4
   obtain⟨q1,q2,q3⟩:=nodup_append.mp m2
   obtain⟨s1,s2⟩:=nodup_cons.mp q1
   have off:∀b∈A1++A2,b≠b0:=λb hb z=>by
    subst z
    rcases mem_append.mp hb with y |y
    .exact m3 b y b (by simp) rfl
    .exact q3 b (by simp) b y rfl
   have hab:a≠b0:=λz=>n1 (by rw[z];simp)
   have hdb:dx≠b0:=λz=>n3 (by rw[z];simp)
   have em:(Xmg x).map (λs=>OV.fz (.str s))=((Xmg x).map D.str).map OV.fz:=by rw[map_map];rfl
   have f4':=f4 F1 (upd H1 b0 (.lst (ws++(Xmg x).map V.str))) (.nl (us++(Xmg x).map λs=>.fz (.str s))) (.ref b0) (b0::(B1++[])) x1.ff (λb hb xs z=>Xaz (off b hb) (x1.hh _ _ z))
    ⟨b0,ws++(Xmg x).map V.str,B1++[],rfl,rfl,Xa3,by
     rw[em]
     exact Xa6.append (hws.frame x1.ff λb hb xs z=>Xaz (λy=>s1 (by rw[<- y];exact hb)) (x1.hh _ _ z)) (Xa6.fzs (Xsk _))⟩
   rw[Xd9 f1,append_nil]at f4'
   exact l.nx F1 _ Y _ (e1.obj hv eA h0 ho (Xaz hab (x1.hh _ _ h1)) (Xaz hdb (x1.hh _ _ h2)) (by rw[length_set];exact hl) f4' n4 (λb hb=>.inl hb) λb o' hb z=>Xaz (λy=>hb (by rw[y];exact hbA)) z) p.2
  .exact p.elim
 .exact w.elim
end
end L2
namespace PySem.W
open PySem PySem.Spec PySem.Calls PyProof.Rows Builtin Builtin.ObjectAttr Builtin.Getset_descriptor
section
variable {prog:Program}{w:World}{A:Around}{E:Value->Shared->Prop}{s:Shared}{K:Frag}{x D:Addr}{ox:Obj}
end
end PySem.W
namespace L2
open PySem PySem.Spec PyProof.Rows PyProof.V PySem.W
section
variable {X:Cx}
end
section
variable {K:Frag}{F0 H0:Hp}{t u:TS}{T U:DS}
end
section
variable {P:Program}{w:World}{K:Frag}{mg:Str->Option Value}{base:Heap}{N:List Str}{qual:Str}{scope:Scope}{f:Addr}{cd:Value}{A:Around}{outer:List Env}{s:Shared}{H:Hp}{E:XK}
end
section
variable {K:Frag}{F0 H0 F H:Hp}{Y:St}{M:Dst}{A:Nat->List Addr}
end
open PySem PySem.Spec PyProof.Rows
section
variable {X:Cx}{K:Frag}
end
open PySem PySem.Spec PyProof.Rows PyProof.V PySem.W
section
variable {X:Cx}
end
section
variable {K:Frag}{X:Cx}
end
section
variable {δ:Model}{A:Around}{E:Value->Shared->Prop}{s:Shared}
end
section
variable {P:Program}{w:World}{K:Frag}{mg:Str->Option Value}{base:Heap}{N:List Str}{qual:Str}{scope:Scope}{f:Addr}{cd:Value}{A:Around}{outer:List Env}{s:Shared}{H:Hp}{E:XK}
end
section
variable {P:Program}{w:World}{K:Frag}{mg:Str->Option Value}{base:Heap}{N0:List Str}{qual:Str}{scope0:Scope}{f:Addr}{cd:Value}{A:Around}{outer:List Env}{s0:Shared}{H0:Hp}{E:XK}
variable {X:Cx}{tg iter e:Expr}{es:List Expr}{scope:Scope}{N:List Str}{ix:List (Option Nat)}{wi:TI}{g:TG}{ta:TA}{pos p cpos:Pos}{x:Str}{k:Nat}{ps:List Str}{sp:Sp}
end
section
variable {K:Frag}{F0 H0:Hp}
end
open PySem PySem.Spec PyProof.Rows
section
variable {X:Cx}{K:Frag}
end
open PySem PySem.Spec PyProof.Rows PyProof.V PySem.W
section
variable {K:Frag}{h:Heap}{mg:Str->Option Value}{x m q c:Str}{st:Stmt}{f T C:Addr}{od an odT:Option Addr}{sl slT:Array (Option Value)}{oc kV dc pm cd ct ocT:Value}{nT:Nat}{ds:Array Value}
theorem dmk (X:K.In h)(G:h.Ns mainGlobals mg)(a:nsIn K mainGlobals x=some (some (.ref f)):=by k_is)(l:K.lookup f=some ⟨oc,od,.func (fnOf x x (Xb9 st) (Xbn st) (Xaf st) .none kV dc pm an cd ct),sl⟩:=by k_is)(d:codeIn K cd x=true:=by k_is)(k:keepIn K (.ref f)=true:=by k_is):
  DefAt K mg x st f (fnOf x x (Xb9 st) (Xbn st) (Xaf st) .none kV dc pm an cd ct):=⟨Ybq (st:=st) l d k,mg_of X G a⟩
theorem Ynj (X:K.In h)(G:h.Ns mainGlobals mg)(a:nsIn K mainGlobals x=some (some (.ref f)):=by k_is)(l:K.lookup f=some ⟨oc,od,.func (fnOf x x (Xb9 st) (Xbn st) (Xaf st) (.ref T) kV dc pm an cd ct),sl⟩:=by k_is)(d:codeIn K cd x=true:=by k_is)(k:keepIn K (.ref f)=true:=by k_is)(dl:K.lookup T=some ⟨ocT,odT,.seq ds nT,slT⟩:=by k_is):
  DefAtD K mg x st f (fnOf x x (Xb9 st) (Xbn st) (Xaf st) (.ref T) kV dc pm an cd ct) T ds:=⟨⟨_,_,_,_,_,_,_,_,_,rfl,l,d⟩,⟨_,_,dl,rfl⟩,k,mg_of X G a⟩
theorem dnm (X:K.In h)(G:h.Ns mainGlobals mg)(a:nsIn K mainGlobals x=some (some (.ref f)):=by k_is):Xtz K mg x:=⟨_,a,mg_of X G a⟩
theorem Yor {ns:List Str}(X:K.In h)(aC:nsIn K mainGlobals c=some (some (.ref C)):=by k_is)(pg:plainGet K C Str.empty=true:=by k_is)(hd:hasDictIn K C=true:=by k_is)(po:plainOver K C=true:=by k_is)(sa:findIn K (.ref C) "__setattr__"=some (some (.builtin "object.__setattr__")):=by k_is)(hn:∀f∈ns,findIn K (.ref C) f=some none)(h1:ns.Nodup)(h2:ns.length<1000):ClsV K c ns:=
 ⟨⟨C,aC,⟨pg,hd,po,sa⟩,hn⟩,h1,h2⟩
theorem Xyg {ns:List Str}(X:K.In h)(CV:ClsV K c ns)(aC:nsIn K mainGlobals c=some (some (.ref C)):=by k_is)(a:findIn K (.ref C) m=some (some (.ref f)):=by k_is)(i:isFn K (.ref f)=true:=by k_is)(l:K.lookup f=some ⟨oc,od,.func (fnOf m q (Xb9 st) (Xbn st) (Xaf st) .none kV dc pm an cd ct),sl⟩:=by k_is)(d:codeIn K cd q=true:=by k_is)(k:keepIn K (.ref f)=true:=by k_is):
  MetAt K c m q st f (fnOf m q (Xb9 st) (Xbn st) (Xaf st) .none kV dc pm an cd ct):=by
 obtain⟨C',e,Z,_⟩:=CV.ex
 rw[aC]at e
 cases e
 exact⟨Ybq (x:=m) (qual:=q) (st:=st) l d k,⟨_,aC,Z,⟨a,i,k⟩⟩⟩
theorem Yoq (X:K.In h)(G:h.Ns mainGlobals mg)(aC:nsIn K mainGlobals c=some (some (.ref C)):=by k_is)(mk:makesIn K C=true:=by k_is)(kc:keepIn K (.ref C)=true:=by k_is)(a:findIn K (.ref C) "__init__"=some (some (.ref f)):=by k_is)(i:isFn K (.ref f)=true:=by k_is)(l:K.lookup f=some ⟨oc,od,.func (fnOf "__init__" q (Xb9 st) (Xbn st) (Xaf st) .none kV dc pm an cd ct),sl⟩:=by k_is)(d:codeIn K cd q=true:=by k_is)(k:keepIn K (.ref f)=true:=by k_is):
  Fun K "__init__" q st f (fnOf "__init__" q (Xb9 st) (Xbn st) (Xaf st) .none kV dc pm an cd ct)/\MakAt K mg c f:=⟨Ybq (x := "__init__") (qual:=q) (st:=st) l d k,⟨⟨_,aC,⟨mk,a,i,kc⟩,mg_of X G aC⟩⟩⟩
theorem mz {n:Str}(X:K.In h)(G:h.Ns mainGlobals mg)(e:nsIn K mainGlobals n=some none:=by k_is):mg n=none:=PySem.W.mg_none_of X G e
theorem mv {n:Str}{v:Value}(X:K.In h)(G:h.Ns mainGlobals mg)(e:nsIn K mainGlobals n=some (some v):=by k_is):mg n=some v:=mg_of X G e
theorem Ypm {a b:Value}{v:Bool}(X:K.In h)(e:kitOne K a b=some v):kitOne K a b=some v:=e
theorem Ypl {P:Program}{w:World}{fd:FuncData}{k:Nat}{sp:Sp}(Df:DefAt K mg x st f fd)(hb:∀(s:Shared) (v:Value),BindsTo s fd ⟨[v],[]⟩ [("_law_script",v)])(hc:∀base:Heap,K.In base->base.Ns mainGlobals mg->FnOk P w K mg base CX0 k f fd ["_law_script"] sp):
  ∃fd:FuncData,(∀(s:Shared) (v:Value),BindsTo s fd ⟨[v],[]⟩ [("_law_script",v)])/\∀base:Heap,K.In base->base.Ns mainGlobals mg->FnOk P w K mg base CX0 k f fd ["_law_script"] sp:=⟨fd,hb,hc⟩
end
section
variable {K:Frag}
theorem CalV.never {P:Program}{w:World}{mg:Str->Option Value}{base:Heap}{x:Str}{st:Stmt}{f:Addr}{fd:FuncData}{N ps:List Str}{k n:Nat}{sp:DSp}(Df:DefAt K mg x st f fd)(S:FnScope N ps (Xaf st))
  (hb:∀(kV doc pm:Value) (an:Option Addr) (cdv ct:Value) (us:List Value),us.length=ps.length->bindArgs (fnOf x x (Xb9 st) (Xbn st) (Xaf st) .none kV doc pm an cdv ct) ⟨us,[]⟩=pure (ps.zip us)) (hn:n=ps.length) (hf:∀ds Pr,sp ds Pr->False):Cal P w K mg base x (k+1) ps (spV K n sp):=
 Cal.of Df S hb (λvs H Q E h=>by rw[<- hn];exact h.1) λcdv A outer s H vs Q E hr h=>by
  obtain⟨_,F,ds,Pr,hs,hr',hsp,hq⟩:=h
  exact (hf _ _ hsp).elim
end
end L2
namespace Lw
open PySem L2 PyProof.Rows
def top (i:Nat):Stmt:=PySem.Challenge.pw_liftwave_k61_whole_one_picture.main.body.getD i (.Pass ⟨0,0,0,0⟩)
abbrev vD (d:D):Option Sl:=some (.own (.fz d))
abbrev vI (i:Int):Option Sl:=some (.own (.fz (.int i)))
abbrev vL (ts:List OV):Option Sl:=some (.own (.nl ts))
set_option hygiene false
local macro_rules | `(tactic|walk_at "b")=>`(tactic|first |exact (λ_ _ _ _ _ _ us hl=>match us,hl with | [_],_=>rfl) |exact (λ_ _ _ _ _ _ us hl=>match us,hl with | [_,_],_=>rfl) |exact (λ_ _ _ _ _ _ us hl=>match us,hl with | [_,_,_],_=>rfl) |exact (λ_ _ _ _ _ _ us hl=>match us,hl with | [_,_,_,_],_=>rfl) |exact (λ_ _ _ _ _ _ us hl=>match us,hl with | [_,_,_,_,_],_=>rfl))
local macro_rules | `(tactic|walk_at "S")=>`(tactic|exact⟨rfl,rfl,rfl,by decide +kernel,rfl,by decide +kernel,by decide +kernel⟩)
local macro_rules | `(tactic|fin2)=>`(tactic|simp only[vD,vI,vL,Xgg,Yjy,Ymu,Yfg,Yn5,Yg2,sIf,Yn4,Yn8,Yn9,Ymy,Yn6,Yhg,Yhh,Ymx,Ymv,Yfc,Yls,Yn7,gN,Xoh,Xhr,gT,dFz,Yot,dLf,dV,dB,dC,dOp,dUn,rU1,rI2,Ykb,Ym1,Ymz,Ym0,Yhk,D.isNon,dTb,Yoz,Yo6,dOr,dIf,Yl4,Ylu,Yf8,Ynk,Yiv,Ylw,Yf6,You,Yo0,ixL,ixT,dCB,Yo5,Yna,Ym9,Ym7,L2.Ynd,Ynp,Yib,Ymo,Ylv,dPt,Yox,Yl2,Yga,Yo3,Yo1,Ylr,Ylq,Yoy,Yiz,Yl0,Ync,Ynb,Yix,Yop,Yoh,D.same,Yno,Ynm,Yh9,Yl3,Ylz,Yos,Yln,Yov,Yl1,Ylt,Yf3,Yjx,Ylo,Yf4,Xzw,Xz0,Yf9,Yb1,Xvc,Xug,Xjl,Ymt,Yf7,Ylp,Yo4,Yhb,Yhd,Yhe,Yhf,Yg3,Yf5,Ylx,Xj8,Xw0,Yly,Yh5,Yi7,Yms,Yow,Yo2,OV.val,OV.vals,OV.vals_eq,D.lf,D.lfs,OV.lf,OV.lfs,map_cons,map_nil,cons_append,nil_append,length_cons,length_nil,List.replicate,Nat.reduceAdd,Nat.reduceSub,Nat.reduceLeDiff,List.getElem?_cons_zero,getElem?_cons_succ,set_cons_zero,set_cons_succ,Bool.not_true,Bool.not_false,Bool.true_and,Bool.and_true,true_and,and_true,if_true,if_false,false_eq_true,length_map,decide_eq_true_eq,Option.some.injEq,Sl.own.injEq,OV.ob.injEq,exists_eq_left',Ygj,Ylk,Ygx,Yi2,Ypb,Yjc,Ynv,Int.reduceLT,Int.reduceLE,Int.reduceNeg,Int.reducePow,Int.reduceToNat,Int.reduceAdd,Int.reduceSub,true_or,or_true,Ym6,Yk0,Yih,Yea,Yig,String.reduceBEq,decide_true,Bool.or_self,Bool.or_false,Bool.not_not,ne_eq,not_true,Xw7,Yge,Ygd,Ygc,Ymc,beq_self_eq_true,Bool.true_or,Bool.or_true])
local macro_rules | `(tactic|gn_on)=>`(tactic| (refine Ye6 λN hN=>?_;fin2))
local macro_rules | `(tactic|gp_on)=>`(tactic| (refine hN _ ?_;clear hN;clear N))
set_option hygiene true
section
variable (P:Program)(w:World){K:Frag}{mg:Str->Option Value}(base:Heap)
seal L2.PA L2.PE L2.PS L2.PSs L2.PT L2.PW L2.PG L2.PGs L2.PO L2.PI
def Xk7 (b:Bool):Str:=if b then "1" else "0"
theorem Xmz (b:Bool):(Xk7 b).length=1:=by cases b<;>rfl
theorem idx_from {n i:Nat}(h:i<=n):Builtin.Str.strSliceIndices (some (i:Int)) none 1 n=(List.range (n-i)).map λk=>i+k:=by
 unfold Builtin.Str.strSliceIndices sliceRange
 have e0:¬ ((i:Int)<0):=by omega
 simp only[e0,if_false,show (1:Int) > 0 by decide,if_true]
 have e:max 0 (min (i:Int) (n:Int))=(i:Int):=by omega
 rw[e]
 have c:(if (i:Int)<(n:Int) then ((n:Int)-(i:Int)+1-1) / 1 else 0).toNat=n-i:=by
  split
  .rw [ediv_one];(clear h e0;omega)
  .omega
 rw[c]
 refine map_congr_left λk _=>?_
 clear h e0;omega
def Xbv (bs:List Bool):Str:=Txt.join "" (bs.map Xk7)
theorem Xgf:Xbv []=Str.empty:=rfl
theorem Xt3:(Str.ofString "")=⟨#[]⟩:=by decide +kernel
theorem Xdi (b:Bool)(bs:List Bool):Xbv (b::bs)=Xk7 b++Xbv bs:=by
 unfold Xbv
 rw[show ∀l,Txt.join (Str.ofString "") l=Str.join (Str.ofString "") l from λl=>PySem.StrLaws.glued_eq_join _ l,show ∀l,Txt.join (Str.ofString "") l=Str.join (Str.ofString "") l from λl=>PySem.StrLaws.glued_eq_join _ l]
 cases bs with
 |nil=>exact (Str.append_empty _).symm
 |cons c cs=>
  show Xk7 b++Str.ofString ""++Str.join (Str.ofString "") (Xk7 c::cs.map Xk7)=_
  rw[Xt3,show (Xk7 b++(⟨#[]⟩:Str))=Xk7 b from Str.append_empty _]
  rfl
theorem Yi1 (x y:Str):(x++y).length=x.length+y.length:=by
 show (x.cps++y.cps).size=_
 rw[size_append]
 rfl
theorem Xbh:∀bs:List Bool,(Xbv bs).length=bs.length
 | []=>rfl
 |b::bs=>by rw[Xdi,Yi1,Xbh bs,Xmz,length_cons];omega
theorem Xes:∀(as bs:List Bool),Xbv (as++bs)=Xbv as++Xbv bs
 | [],bs=>(Str.empty_append _).symm
 |a::as,bs=>by rw[cons_append,Xdi,Xes as bs,Xdi,Str.append_assoc]
theorem Ygr (n:Nat)(h:n<2):Str.ofString (toString ((n:Nat):Int))=Xk7 (decide (n=1)):=by
 rcases (show n=0∨n=1 by omega) with rfl |rfl<;>decide +kernel
theorem Ycv (x y:Str):Xmg (x++y)=Xmg x++Xmg y:=by
 show (x.cps++y.cps).toList.map _=_
 rw[toList_append,map_append]
 rfl
theorem Ycu (b:Bool):Xmg (Xk7 b)=[Xk7 b]:=by cases b<;>decide +kernel
theorem Xgh:∀bs:List Bool,Xmg (Xbv bs)=bs.map Xk7
 | []=>rfl
 |b::bs=>by rw[Xdi,Ycv,Ycu,Xgh bs];rfl
theorem Yeo (b:Bool):decide (Xk7 b=Str.ofString "1")=b:=by cases b<;>decide +kernel
theorem Ylb {n i:Nat}(h:i<=n):Builtin.Str.strSliceIndices none (some (i:Int)) 1 n=List.range i:=by
 unfold Builtin.Str.strSliceIndices sliceRange
 have e0:¬ ((i:Int)<0):=by omega
 simp only[e0,if_false,show (1:Int) > 0 by decide,if_true]
 have e:max 0 (min (i:Int) (n:Int))=(i:Int):=by omega
 rw[e]
 have c:(if (0:Int)<(i:Int) then ((i:Int)-0+1-1) / 1 else 0).toNat=i:=by
  split
  .rw [ediv_one];(clear h e0;omega)
  .clear h e0;omega
 rw[c]
 refine ext_getElem? λk=>?_
 by_cases hk:k<i
 .simp [hk]
 .simp [hk]
theorem Ybs {α:Type}(l:List α){i:Nat}(h:i<=l.length):(List.range i).filterMap (λk=>l[k]?)=l.take i:=by
 have e:∀n:Nat,n<=l.length->(List.range n).filterMap (λk=>l[k]?)=l.take n:=by
  intro n
  induction n with
  |zero=>intro _;simp
  |succ n ih=>
   intro hn
   rw[range_succ,List.filterMap_append,ih (by omega),take_add_one,getElem?_eq_getElem (by omega)]
   simp[getElem?_eq_getElem (show n<l.length by omega)]
 exact e i h
theorem Yjf (x:Str){i:Nat}(h:i<=x.length):Txt.slice x none (some (i:Int))=⟨(x.cps.toList.take i).toArray⟩:=by
 have e:(List.range i).filterMap (x.cps[·]?)=x.cps.toList.take i:=by
  rw[<- Ybs x.cps.toList (show i<=x.cps.toList.length by rw[length_toList];exact h)]
  simp
 unfold Txt.slice
 rw[Ylb h]
 split
 .rename_i c
  have hi:i=x.length:=by simpa using c
  rw[hi,show x.length=x.cps.toList.length by simp;rfl,take_length]
 .rw [e]
theorem Xmr (bs:List Bool){i:Nat}(h:i<=bs.length):Txt.slice (Xbv bs) none (some (i:Int))=Xbv (bs.take i):=by
 rw[Yjf _ (by rw[Xbh];exact h)]
 have e:Xbv bs=Xbv (bs.take i)++Xbv (bs.drop i):=by rw[<- Xes,take_append_drop]
 have hl:(Xbv (bs.take i)).cps.toList.length=i:=by
  have:=Xbh (bs.take i)
  rw[length_take,min_eq_left h]at this
  rw[length_toList]
  exact this
 rw[e]
 show (⟨(((Xbv (bs.take i)).cps++(Xbv (bs.drop i)).cps).toList.take i).toArray⟩:Str)=_
 rw[toList_append,List.take_append_of_le_length (by omega),take_of_length_le (by omega)]
theorem Xz6 (b:Bool):∀(m:Nat) (a:Array Nat),(List.replicate m (Xk7 b).cps).foldl (·++·) a=a++(Xbv (List.replicate m b)).cps
 | 0,a=>by
  show a=a++#[]
  simp
 |m+1,a=>by
  rw[replicate_succ,foldl_cons,Xz6 b m,replicate_succ,Xdi]
  show a++(Xk7 b).cps++_=a++((Xk7 b).cps++_)
  rw[Array.append_assoc]
theorem Xz7 (b:Bool)(m:Nat):Yfi (Xk7 b) (m:Int)=Xbv (List.replicate m b):=by
 unfold Yfi
 split
 .rename_i h
  have:m=0:=by omega
  subst this
  exact Xgf.symm
 .split
  .rename_i h h2
   rw[Xmz]at h2
   have:m=1:=by simp at h2;omega
   subst this
   show Xk7 b=Xbv [b]
   rw[Xdi,Xgf]
   exact (Str.append_empty _).symm
  .rw [toNat_natCast,Xz6]
   simp
def Xa5:List Str:=["plane","used","row_ends","walked","ahead"]
structure Pa where
 a:Int
 s:Int
 e:Int
 lo:Int
 hi:Int
def Pa.d (p:Pa):D:=.tup [.int p.a,.int p.s,.int p.e,.tup [.int p.lo,.int p.hi]]
structure Wk where
 pl:Int
 us:Int
 re:List Int
 wk:List Pa
 ah:List Pa
def Wk.ts (w:Wk):List OV:=[.fz (.int w.pl),.fz (.int w.us),.nl (w.re.map λi=>.fz (.int i)),.nl (w.wk.map λp=>.fz p.d),.nl (w.ah.map λp=>.fz p.d)]
def Wk.turn (w:Wk):Wk:=if w.pl-1>=0 then {w with pl:=w.pl-1,ah:=w.wk.reverse,wk:=[]} else {w with pl:=w.pl-1}
def Wk.wake (w:Wk)(p:Pa):Wk:=if p.e-p.s=1 then {w with ah:=w.ah++[⟨2,p.s,p.e,p.lo,p.hi⟩]} else {w with ah:=w.ah++[⟨0,(p.s+p.e) / 2,p.e,p.lo,p.hi⟩,⟨1,p.s,(p.s+p.e) / 2,p.lo,p.hi⟩]}
def Wk.fits (w:Wk):Prop:=w.re.length<900000/\w.wk.length<900000/\w.ah.length<900000
def Xjb:DSp:=λds P=>∃p:Pa,ds=[p.d]/\P (.fz (.bl (decide (p.e-p.s=1))))
def Xh4:DSp:=λds P=>∃n:Nat,ds=[.int n]/\n<=5000/\P (.fz (.tup [.int (1-2^n),.int (2^n-1)]))
def Xja:DSp:=λds P=>∃(n:Nat) (b:Bool),ds=[.int n,.bl b]/\n<=5000/\P (.fz (if b then .tup [.int (1-2^n-2^n),.int (-2^n)] else .tup [.int (2^n),.int (2^n+2^n-1)]))
def Xh3:DSp:=λds P=>∃(lo hi:Int) (n:Nat) (b:Bool),ds=[.tup [.int lo,.int hi],.int n,.bl b]/\n<=5000/\P (.fz (if b=decide (lo > 0) then .tup [.int (lo+2^n),.int hi] else .tup [.int lo,.int (hi-2^n)]))
def Xh6:DMo:=λts ds P=>∃w:Wk,ts=w.ts/\w.wk.length<=1000000/\ds=[]/\P w.turn.ts
def Xev:DMo:=λts ds P=>∃(m:Int) (n:Nat),ts=[]/\ds=[.int m,.int n]/\n<=5000/\P (Wk.turn ⟨n,0,[],[⟨0,0,m,1-2^n,2^n-1⟩],[]⟩).ts
def Xfr:DMo:=λts ds P=>∃(w:Wk) (p:Pa) (lo hi:Int),ts=w.ts/\w.wk.length<1000000/\ds=[p.d,.tup [.int lo,.int hi]]/\P {w with wk:=w.wk++[⟨3,p.s,p.e,lo,hi⟩]:Wk}.ts
def Xh5:DMo:=λts ds P=>∃(w:Wk) (p:Pa),ts=w.ts/\w.ah.length<900000/\ds=[p.d]/\P (w.wake p).ts
def Xcq:DSp:=λds P=>∃w:Wk,ds=[.obj "Walk" Xa5 (OV.vals w.ts)]/\P (.fz (.bl (decide (w.pl<0))))
def Wk.walked (w:Wk)(p:Pa):Wk:={w with wk:=w.wk++[p]}
def Wk.calm (w:Wk)(p:Pa):Wk:=if p.a=1 then {w.walked ⟨0,p.s,p.e,1-2^w.pl.toNat,2^w.pl.toNat-1⟩ with ah:=w.ah.dropLast:Wk}.wake (w.ah.getLastD p) else w.walked ⟨0,p.s,p.e,1-2^w.pl.toNat,2^w.pl.toNat-1⟩
def Pa.figured (p:Pa)(n:Nat)(b:Bool):Pa:=if b=decide (p.lo > 0) then ⟨3,p.s,p.e,p.lo+2^n,p.hi⟩ else ⟨3,p.s,p.e,p.lo,p.hi-2^n⟩
def Pa.signed (p:Pa)(n:Nat)(b:Bool):Pa:=if b then ⟨3,p.s,p.e,1-2^n-2^n,-2^n⟩ else ⟨3,p.s,p.e,2^n,2^n+2^n-1⟩
def Wk.step (w:Wk)(ah:List Pa)(p:Pa)(b:Bool):Wk:=
 if p.a=3 then {w with us:=w.us+1,ah:=ah,wk:=w.wk++[p.figured w.pl.toNat b]} else if p.a=2 then {w with us:=w.us+1,ah:=ah,wk:=w.wk++[p.signed w.pl.toNat b]}
 else if b then Wk.wake {w with us:=w.us+1,ah:=ah} p else Wk.calm {w with us:=w.us+1,ah:=ah} p
def Wk.rowEnd (w:Wk):Wk:=if w.ah=[] then Wk.turn {w with re:=w.re++[w.us]} else w
def Xl5:DMo:=λts ds P=>∃(w:Wk) (p:Pa),ts=w.ts/\(w.wk.length<1000000/\w.ah.length<900000)/\ds=[p.d]/\0<=w.pl/\w.pl<=5000/\(p.a=1->w.ah≠[])/\P (w.calm p).ts
def Xh7:DMo:=λts ds P=>∃(w:Wk) (ah:List Pa) (p:Pa) (b:Bool),ts=w.ts/\w.fits/\ds=[.bl b]/\w.ah=ah++[p]/\0<=w.pl/\w.pl<=5000/\(p.a=1->b=false->ah≠[])/\P ((w.step ah p b).rowEnd).ts
theorem Xt1 (n:Nat):(1:Int)*2^((n:Int).toNat)=2^n:=by rw[one_mul,toNat_natCast]
theorem Xr4 {n:Nat}(h:n<=5000):0<=(n:Int)/\(n:Int)<=1000000/\Int.natAbs 1<2^64:=⟨by omega,by omega,by decide⟩
theorem Xqu (ps:List Pa):(ps.map λp=>OV.fz p.d).map OV.val=ps.map Pa.d:=by rw[map_map];rfl
theorem Xwj (ps:List Pa):D.lfs (ps.map Pa.d)=true:=by
 rw[D.lfs_eq]
 simp[Pa.d,D.lf,D.lfs]
theorem Ykl (p:Pa):p.d.lf=true:=by simp[Pa.d,D.lf,D.lfs]
theorem Ykk (ps:List Pa):List.map OV.fz (ps.map Pa.d).reverse=ps.reverse.map λp=>OV.fz p.d:=by rw[<- map_reverse,map_map];rfl
theorem Ykm (ps:List Pa)(p:Pa):(ps.map λp=>OV.fz p.d)++[OV.fz p.d]=(ps++[p]).map λp=>OV.fz p.d:=by simp
theorem Xny (ps:List Pa)(a s e lo hi:Int):(ps.map λp=>OV.fz p.d)++[OV.fz (.tup [.int a,.int s,.int e,.tup [.int lo,.int hi]])]=(ps++[(⟨a,s,e,lo,hi⟩:Pa)]).map λ(p:Pa)=>OV.fz p.d:=Ykm ps ⟨a,s,e,lo,hi⟩
theorem Xpq (p:Pa):p.d = .tup [.int p.a,.int p.s,.int p.e,.tup [.int p.lo,.int p.hi]]:=rfl
abbrev Xg5:Stmt:=top 9
theorem Xow:FnScope ["part"] ["part"] (Xaf Xg5):=by walk_at "S"
abbrev Xjt:Stmt:=top 10
theorem Xsa:FnScope ["plane"] ["plane"] (Xaf Xjt):=by walk_at "S"
abbrev Xg4:Stmt:=top 11
theorem Xjg:FnScope ["plane","below","least"] ["plane","below"] (Xaf Xg4):=by walk_at "S"
abbrev Xf7:Stmt:=top 12
theorem Xnk:FnScope ["span","plane","figure"] ["span","plane","figure"] (Xaf Xf7):=by walk_at "S"
abbrev Xjv:Stmt:=Xdh (top 13) 1
theorem Xsc:FnScope ["self"] ["self"] (Xaf Xjv):=by walk_at "S"
abbrev Xfg:Stmt:=Xdh (top 13) 0
theorem Xmj:FnScope ["self","many","planes"] ["self","many","planes"] (Xaf Xfg):=by walk_at "S"
abbrev Xea:Stmt:=Xdh (top 13) 7
theorem Xkd:FnScope ["self","part","span"] ["self","part","span"] (Xaf Xea):=by walk_at "S"
abbrev Xju:Stmt:=Xdh (top 13) 8
theorem Xl7:FnScope ["self","part","middle"] ["self","part"] (Xaf Xju):=by walk_at "S"
abbrev Xff:Stmt:=Xdh (top 13) 2
theorem Xmi:FnScope ["self"] ["self"] (Xaf Xff):=by walk_at "S"
abbrev Xjx:Stmt:=Xdh (top 13) 9
theorem Xsd:FnScope ["self","part"] ["self","part"] (Xaf Xjx):=by walk_at "S"
abbrev Xjw:Stmt:=Xdh (top 13) 6
theorem Xl8:FnScope ["self","told","part"] ["self","told"] (Xaf Xjw):=by walk_at "S"
theorem Xo2 {f:Addr}{fd:FuncData}(Df:DefAt K mg "part_of_one" Xg5 f fd)(B:BltV mg)(KV:KitV K)(Xgo:∃t,mg "END"=some (.int 2 t))(Xcf:∃t,mg "START"=some (.int 1 t)):
  Cal P w K mg base "part_of_one" 1 ["part"] (spV K 1 Xjb):=by
 refine CalV.of Df Xow (by walk_at "b") rfl (λc A o s H E hr=>⟨_,_,(Xal (Xa1 (Xew Xln (Xaw Xdl (Xax Xas (pv 0) (Xao (by rfl) Xgo) (λ_ _=>rfl)) (Xax Xas (pv 0) (Xao (by rfl) Xcf) (λ_ _=>rfl))) Xaj (Xbo _)))),
  (Xa4 (Xbk (Xaq Xlq (Xap (Xaq Xb5 (Xbe (OpF.b Xar) Xac (Xap Xae)) (Xbe (OpF.b Xar) Xac (Xap Xae)))) (Xap Xae)))),?_⟩)
 rintro ds Pr ⟨p,rfl,h⟩
 unfold Pa.d
 fin2
 exact h
theorem Xsz {f:Addr}{fd:FuncData}(Df:DefAt K mg "calm_span" Xjt f fd)(B:BltV mg)(KV:KitV K):
  Cal P w K mg base "calm_span" 1 ["plane"] (spV K 1 Xh4):=by
 refine CalV.of Df Xsa (by walk_at "b") rfl (λc A o s H E hr=>⟨_,_,(Xal (Xa1 (Xbd (Xaa (Xaw Xdl Xaj (Xaw Xim Xaj (pv 0))) (Xaa (Xaw Xdl (Xaw Xim Xaj (pv 0)) Xaj) Xad))))),
  (Xa4 (Xbk (Xbx (Xab (Xaq Xb5 (Xap Xae) (Xap (Xaq Xdd (Xap Xae) Xac))) (Xab (Xaq Xb5 (Xap (Xaq Xdd (Xap Xae) Xac)) (Xap Xae)) Xak))))),?_⟩)
 rintro ds Pr ⟨n,rfl,hn,h⟩
 fin2
 refine⟨Xr4 hn,Xr4 hn,?_⟩
 rw[Xt1]
 exact h
theorem Xo1 {f:Addr}{fd:FuncData}(Df:DefAt K mg "signed_span" Xg4 f fd)(B:BltV mg)(KV:KitV K):
  Cal P w K mg base "signed_span" 1 ["plane","below"] (spV K 2 Xja):=by
 refine CalV.of Df Xjg (by walk_at "b") rfl (λc A o s H E hr=>⟨_,_,(Xah (Xa9 (i:=2) Xjg.nd rfl (Or.inl rfl) (Xaw Xim Xaj (pv 0)))
   (Xah (Xcm (Xcr (pv 1)) (Xal (Xa1 (Xbd (Xaa (Xaw Xdl (Xaw Xdl Xaj (pv 2)) (pv 2)) (Xaa (Xss Xl1 (pv 2)) Xad))))) Xbg)
   (Xal (Xa1 (Xbd (Xaa (pv 2) (Xaa (Xaw Xdl (Xaw Xc5 (pv 2) (pv 2)) Xaj) Xad))))))),
  (Xam (Xa8 (Xbk (Xaq Xdd (Xap Xae) Xac)))
   (Xam (Xcl (Xmk Xag) (Xa4 (Xbk (Xbx (Xab (Xaq Xb5 (Xap (Xaq Xb5 (Xap Xae) Xac)) Xac) (Xab (Xl9 Xac) Xak))))) Xbf)
   (Xa4 (Xbk (Xbx (Xab Xag (Xab (Xaq Xb5 (Xap (Xaq Xb5 Xac Xac)) (Xap Xae)) Xak))))))),?_⟩)
 rintro ds Pr ⟨n,b,rfl,hn,h⟩
 fin2
 refine⟨Xr4 hn,?_⟩
 rw[Xt1]
 cases b with
 |true=>rw[if_pos rfl]at h ⊢;exact h
 |false=>rw[if_neg (by decide)]at h ⊢;exact h
theorem Xn3 {f:Addr}{fd:FuncData}(Df:DefAt K mg "figured_span" Xf7 f fd)(B:BltV mg)(KV:KitV K):
  Cal P w K mg base "figured_span" 1 ["span","plane","figure"] (spV K 3 Xh3):=by
 refine CalV.of Df Xnk (by walk_at "b") rfl (λc A o s H E hr=>⟨_,_,(Xah (Xcm (Xbq Xln (pv 2) (Xew Yhs (Xax Xas (pv 0) Xaj (λ_ _=>rfl)) Xaj (Xbo _)) (Xbo _)) (Xal (Xa1 (Xbd (Xaa (Xaw Xc5 (Xax Xas (pv 0) Xaj (λ_ _=>rfl)) (Xaw Xim Xaj (pv 1))) (Xaa (Xax Xas (pv 0) Xaj (λ_ _=>rfl)) Xad))))) Xbg)
   (Xal (Xa1 (Xbd (Xaa (Xax Xas (pv 0) Xaj (λ_ _=>rfl)) (Xaa (Xaw Xdl (Xax Xas (pv 0) Xaj (λ_ _=>rfl)) (Xaw Xim Xaj (pv 1))) Xad)))))),
  (Xam (Xcl (Xbp (Xaq Xlq Xac (Xap (Xaq Xf9 (Xbe (OpF.b Xar) Xac (Xap Xae)) (Xap Xae))))) (Xa4 (Xbk (Xbx (Xab (Xaq Xb5 (Xbe (OpF.b Xar) Xac (Xap Xae)) (Xap (Xaq Xdd (Xap Xae) Xac))) (Xab (Xbj Xar Xag Xae) Xak))))) Xbf)
   (Xa4 (Xbk (Xbx (Xab (Xbj Xar Xag Xae) (Xab (Xaq Xb5 (Xbe (OpF.b Xar) Xac (Xap Xae)) (Xap (Xaq Xdd (Xap Xae) Xac))) Xak)))))),?_⟩)
 rintro ds Pr ⟨lo,hi,n,b,rfl,hn,h⟩
 fin2
 rw[Xt1]
 split at h
 .rename_i c;rw[if_pos c];exact⟨Xr4 hn,h⟩
 .rename_i c;rw[if_neg c];exact⟨Xr4 hn,h⟩
theorem Xs1 {f:Addr}{fd:FuncData}(Df:MetAt K "Walk" "turn" "Walk.turn" Xjv f fd)(B:BltV mg)(KV:KitV K)(CV_Walk:ClsV K "Walk" Xa5):
  CalM P w K mg base "Walk" "turn" 1 ["self"] (spM K 1 "Walk" Xa5 Xh6):=by
 refine CalM.of Df Xsc (by walk_at "b") rfl (λc A o s H E hr=>⟨_,_,(Xah (Xsn (pv 0) Xaj Yk9)
   (Xal (Xcm (Xbq Yht (Xb2 (pv 0) rfl) Xaj (Xbo _)) (Xah (Xih (pv 0) (Xpp rfl B.list rfl B.reversed (Xaa (Xb2 (pv 0) rfl) Xad)) rfl)
   (Xal (Xih (pv 0) (Xb8 Xad) rfl))) Xbg))),
  (Xam (Xzp (j:=0) (g:=λx y=>x-y) CV_Walk (by rfl) (λx y H Q q=>⟨_,_,rfl,rfl,q⟩) (Xap Xae))
   (Xcl (Xbp (Xaq Xf9 (Xc9 (j:=0) CV_Walk (by rfl) Xac) (Xap Xae))) (Xam (Xud (j:=4) CV_Walk (by rfl) (Xpl (Xai (Xc9 (j:=3) CV_Walk (by rfl) Xac) Xan)))
   (Xud (j:=3) CV_Walk (by rfl) (Xc4 Xb7))) Xbf)),?_⟩)
 rintro a ts ds Pr ⟨w,rfl,hf,rfl,h⟩
 unfold Wk.ts
 fin2
 rw[Xqu,Ykk]
 unfold Wk.turn at h
 split at h
 .rename_i c
  rw[if_pos c]
  exact⟨by decide,Xwj _,hf,by decide,h⟩
 .rename_i c
  rw[if_neg c]
  exact h
theorem Xmp {f:Addr}{fd:FuncData}(Df:Fun K "__init__" "Walk.__init__" Xfg f fd)(Mf:MakAt K mg "Walk" f)(B:BltV mg)(KV:KitV K)(CV_Walk:ClsV K "Walk" Xa5)(Xe3:∃t,mg "WAKING"=some (.int 0 t))(Xek:Cal P w K mg base "calm_span" 1 ["plane"] (spV K 1 Xh4))(Xem:CalM P w K mg base "Walk" "turn" 1 ["self"] (spM K 1 "Walk" Xa5 Xh6)):
  CalK P w K mg base "Walk" 2 ["self","many","planes"] (spM K 3 "Walk" Xa5 Xev):=by
 refine CalK.of Df Mf Xmj (by walk_at "b") rfl (λc A o s H E hr=>⟨_,_,(Xah (Xih (pv 0) (pv 2) rfl)
   (Xah (Xih (pv 0) Xaj rfl)
   (Xah (Xih (pv 0) (Xb8 Xad) rfl)
   (Xah (Xih (pv 0) (Xb8 (Xaa (Xbd (Xaa (Xao (by rfl) Xe3) (Xaa Xaj (Xaa (pv 1) (Xaa (Xa0 Xek (hr.mono (by decide)) (by rfl) (Xaa (pv 2) Xad)) Xad))))) Xad)) rfl)
   (Xah (Xih (pv 0) (Xb8 Xad) rfl)
   (Xal (Xbl (Xc0 Xem (hr.mono (by decide)) (pv 0))))))))),
  (Xam (Xie (j:=0) CV_Walk (by rfl) (Xbk Xag))
   (Xam (Xie (j:=1) CV_Walk (by rfl) (Xbk Xae))
   (Xam (Xie (j:=2) CV_Walk (by rfl) (Xc4 Xb7))
   (Xam (Xie (j:=3) CV_Walk (by rfl) (Xc4 (Xby (Xbk (Xbx (Xab Xae (Xab Xae (Xab Xag (Xab (Xb4 (Xat (Xab Xag Xak))) Xak)))))) Xb7)))
   (Xam (Xie (j:=4) CV_Walk (by rfl) (Xc4 Xb7))
   (Xfi CV_Walk (by decide +kernel) Xak)))))),?_⟩)
 rintro a ts ds Pr ⟨m,n,rfl,rfl,hn,h⟩
 fin2
 refine⟨n,rfl,hn,?_⟩
 fin2
 refine⟨⟨n,0,[],[⟨0,0,m,1-2^n,2^n-1⟩],[]⟩,rfl,(by show 1<=1000000;decide),rfl,?_⟩
 exact h
theorem Xkr {f:Addr}{fd:FuncData}(Df:MetAt K "Walk" "walk_awake" "Walk.walk_awake" Xea f fd)(B:BltV mg)(KV:KitV K)(CV_Walk:ClsV K "Walk" Xa5)(Xe4:∃t,mg "FIGURE"=some (.int 3 t))(Xcf:∃t,mg "START"=some (.int 1 t))(Xgo:∃t,mg "END"=some (.int 2 t)):
  CalM P w K mg base "Walk" "walk_awake" 1 ["self","part","span"] (spM K 3 "Walk" Xa5 Xfr):=by
 refine CalM.of Df Xkd (by walk_at "b") rfl (λc A o s H E hr=>⟨_,_,(Xal (Xbl (Xik plainAttrs_list PySem.F.slot_list_append PySem.F.type_list_append Xci (Xb2 (pv 0) rfl) (Xaa (Xbd (Xaa (Xao (by rfl) Xe4) (Xaa (Xax Xas (pv 1) (Xao (by rfl) Xcf) (λ_ _=>rfl)) (Xaa (Xax Xas (pv 1) (Xao (by rfl) Xgo) (λ_ _=>rfl)) (Xaa (pv 2) Xad))))) Xad)))),
  (Xli (j:=3) CV_Walk (by rfl) (Xbk (Xbx (Xab Xae (Xab (Xbj Xar Xag Xae) (Xab (Xbj Xar Xag Xae) (Xab Xag Xak))))))),?_⟩)
 rintro a ts ds Pr ⟨w,p,lo,hi,rfl,hf,rfl,h⟩
 rw[Xpq]
 unfold Wk.ts
 fin2
 rw[Xny]
 exact⟨hf,h⟩
theorem Xs0 {f:Addr}{fd:FuncData}(Df:MetAt K "Walk" "wake" "Walk.wake" Xju f fd)(B:BltV mg)(KV:KitV K)(CV_Walk:ClsV K "Walk" Xa5)(Xky:∃t,mg "SIGN"=some (.int 2 t))(Xe3:∃t,mg "WAKING"=some (.int 0 t))(Xcs:∃t,mg "WAKING_FIRST"=some (.int 1 t))(Xcf:∃t,mg "START"=some (.int 1 t))(Xgo:∃t,mg "END"=some (.int 2 t))(Xio:∃t,mg "SPAN"=some (.int 3 t))(Xhm:Cal P w K mg base "part_of_one" 1 ["part"] (spV K 1 Xjb)):
  CalM P w K mg base "Walk" "wake" 2 ["self","part"] (spM K 2 "Walk" Xa5 Xh5):=by
 refine CalM.of Df Xl7 (by walk_at "b") rfl (λc A o s H E hr=>⟨_,_,(Xal (Xcm (Xcr (Xa0 Xhm (hr.mono (by decide)) (by rfl) (Xaa (pv 1) Xad))) (Xal (Xbl (Xik plainAttrs_list PySem.F.slot_list_append PySem.F.type_list_append Xci (Xb2 (pv 0) rfl) (Xaa (Xbd (Xaa (Xao (by rfl) Xky) (Xaa (Xax Xas (pv 1) (Xao (by rfl) Xcf) (λ_ _=>rfl)) (Xaa (Xax Xas (pv 1) (Xao (by rfl) Xgo) (λ_ _=>rfl)) (Xaa (Xax Xas (pv 1) (Xao (by rfl) Xio) (λ_ _=>rfl)) Xad))))) Xad)))) (Xah (Xa9 (i:=2) Xl7.nd rfl (Or.inl rfl) (Xaw Xlm (Xaw Xc5 (Xax Xas (pv 1) (Xao (by rfl) Xcf) (λ_ _=>rfl)) (Xax Xas (pv 1) (Xao (by rfl) Xgo) (λ_ _=>rfl))) Xaj))
   (Xah (Xbl (Xik plainAttrs_list PySem.F.slot_list_append PySem.F.type_list_append Xci (Xb2 (pv 0) rfl) (Xaa (Xbd (Xaa (Xao (by rfl) Xe3) (Xaa (pv 2) (Xaa (Xax Xas (pv 1) (Xao (by rfl) Xgo) (λ_ _=>rfl)) (Xaa (Xax Xas (pv 1) (Xao (by rfl) Xio) (λ_ _=>rfl)) Xad))))) Xad)))
   (Xal (Xbl (Xik plainAttrs_list PySem.F.slot_list_append PySem.F.type_list_append Xci (Xb2 (pv 0) rfl) (Xaa (Xbd (Xaa (Xao (by rfl) Xcs) (Xaa (Xax Xas (pv 1) (Xao (by rfl) Xcf) (λ_ _=>rfl)) (Xaa (pv 2) (Xaa (Xax Xas (pv 1) (Xao (by rfl) Xio) (λ_ _=>rfl)) Xad))))) Xad)))))))),
  (Xcl (Xmk (Xb4 (Xat (Xab Xag Xak)))) (Xli (j:=4) CV_Walk (by rfl) (Xbk (Xbx (Xab Xae (Xab (Xbj Xar Xag Xae) (Xab (Xbj Xar Xag Xae) (Xab (Xbj Xar Xag Xae) Xak))))))) (Xam (Xa8 (Xbk (Xaq Xdd (Xap (Xaq Xb5 (Xbe (OpF.b Xar) Xac (Xap Xae)) (Xbe (OpF.b Xar) Xac (Xap Xae)))) (Xap Xae))))
   (Xam (Xli (j:=4) CV_Walk (by rfl) (Xbk (Xbx (Xab Xae (Xab Xag (Xab (Xbj Xar Xag Xae) (Xab (Xbj Xar Xag Xae) Xak)))))))
   (Xli (j:=4) CV_Walk (by rfl) (Xbk (Xbx (Xab Xae (Xab (Xbj Xar Xag Xae) (Xab Xag (Xab (Xbj Xar Xag Xae) Xak)))))))))),?_⟩)
 rintro a ts ds Pr ⟨w,p,rfl,hf,rfl,h⟩
 rw[Xpq]
 unfold Wk.ts
 fin2
 refine⟨p,rfl,?_⟩
 have hl:=hf
 unfold Wk.wake at h
 fin2
 split at h
 .rename_i c
  rw[if_pos c,Xny]
  exact⟨by omega,h⟩
 .rename_i c
  rw[if_neg c,Xny,Xny]
  refine⟨by omega,by simp;omega,?_⟩
  rw[append_assoc]
  exact h
theorem Xmo {f:Addr}{fd:FuncData}(Df:MetAt K "Walk" "is_whole" "Walk.is_whole" Xff f fd)(B:BltV mg)(KV:KitV K)(CV_Walk:ClsV K "Walk" Xa5):
  CalM P w K mg base "Walk" "is_whole" 1 ["self"] (spV K 1 Xcq):=by
 refine CalP.of Df Xmi (by walk_at "b") rfl (λc A o s H E hr=>⟨_,_,(Xal (Xa1 (Xew Xn1 (Xb2 (pv 0) rfl) Xaj (Xbo _)))),
  (Xa4 (Xbk (Xaq Xf9 (Xc9 (j:=0) CV_Walk (by rfl) Xac) (Xap Xae)))),?_⟩)
 rintro ds Pr ⟨w,rfl,h⟩
 unfold Wk.ts
 fin2
 exact h
theorem Xs3 {f:Addr}{fd:FuncData}(Df:MetAt K "Walk" "calm" "Walk.calm" Xjx f fd)(B:BltV mg)(KV:KitV K)(CV_Walk:ClsV K "Walk" Xa5)(Xcs:∃t,mg "WAKING_FIRST"=some (.int 1 t))(Xe3:∃t,mg "WAKING"=some (.int 0 t))(Xiq:∃t,mg "ASKS"=some (.int 0 t))(Xcf:∃t,mg "START"=some (.int 1 t))(Xgo:∃t,mg "END"=some (.int 2 t))(Xek:Cal P w K mg base "calm_span" 1 ["plane"] (spV K 1 Xh4))(Xel:CalM P w K mg base "Walk" "wake" 2 ["self","part"] (spM K 2 "Walk" Xa5 Xh5)):
  CalM P w K mg base "Walk" "calm" 3 ["self","part"] (spM K 2 "Walk" Xa5 Xl5):=by
 refine CalM.of Df Xsd (by walk_at "b") rfl (λc A o s H E hr=>⟨_,_,(Xah (Xbl (Xik plainAttrs_list PySem.F.slot_list_append PySem.F.type_list_append Xci (Xb2 (pv 0) rfl) (Xaa (Xbd (Xaa (Xao (by rfl) Xe3) (Xaa (Xax Xas (pv 1) (Xao (by rfl) Xcf) (λ_ _=>rfl)) (Xaa (Xax Xas (pv 1) (Xao (by rfl) Xgo) (λ_ _=>rfl)) (Xaa (Xa0 Xek (hr.mono (by decide)) (by rfl) (Xaa (Xb2 (pv 0) rfl) Xad)) Xad))))) Xad)))
   (Xal (Xcm (Xbq Xln (Xax Xas (pv 1) (Xao (by rfl) Xiq) (λ_ _=>rfl)) (Xao (by rfl) Xcs) (Xbo _)) (Xal (Xbl (Xfl Xel (hr.mono (by decide)) (pv 0) (Xaa (Yam plainAttrs_list PySem.F.slot_list_pop PySem.F.type_list_pop Yfw (Xb2 (pv 0) rfl)) Xad)))) Xbg))),
  (Xam (Xli (j:=3) CV_Walk (by rfl) (Xbk (Xbx (Xab Xae (Xab (Xbj Xar Xag Xae) (Xab (Xbj Xar Xag Xae) (Xab (Xb4 (Xeq (Xai (Xc9 (j:=0) CV_Walk (by rfl) Xac) Xan))) Xak)))))))
   (Xcl (Xbp (Xaq Xlq (Xbe (OpF.b Xar) Xac (Xap Xae)) (Xap Xae))) (Xxn (j:=4) CV_Walk (by rfl) (by decide +kernel)) Xbf)),?_⟩)
 rintro a ts ds Pr ⟨w,p,rfl,hf,rfl,h1,h2,hne,h⟩
 rw[Xpq]
 unfold Wk.ts
 fin2
 refine⟨hf.1,w.pl.toNat,by rw[toNat_of_nonneg h1],by omega,?_⟩
 fin2
 rw[Xny]
 unfold Wk.calm at h
 split at h
 .rename_i c
  rw[if_pos c]
  obtain⟨ah,q,e⟩:∃ah q,w.ah=ah++[q]:=⟨_,_,(List.dropLast_concat_getLast (hne c)).symm⟩
  rw[e]at h ⊢
  rw[dropLast_concat,getLastD_concat]at h
  unfold Xqn
  fin2
  refine⟨ah.map λp=>OV.fz p.d,q.d,by rw[map_append];rfl,?_⟩
  refine⟨{w.walked ⟨0,p.s,p.e,1-2^w.pl.toNat,2^w.pl.toNat-1⟩ with ah:=ah},q,rfl,?_,rfl,h⟩
  have:=hf.2
  rw[e,length_append]at this
  show ah.length<900000
  omega
 .rename_i c
  rw[if_neg c]
  exact h
theorem Xs2 {f:Addr}{fd:FuncData}(Df:MetAt K "Walk" "take" "Walk.take" Xjw f fd)(B:BltV mg)(KV:KitV K)(CV_Walk:ClsV K "Walk" Xa5)(Xe4:∃t,mg "FIGURE"=some (.int 3 t))(Xiq:∃t,mg "ASKS"=some (.int 0 t))(Xky:∃t,mg "SIGN"=some (.int 2 t))(Xio:∃t,mg "SPAN"=some (.int 3 t))(Yfv:Xtz K mg "told")(Xc2:CalM P w K mg base "Walk" "walk_awake" 1 ["self","part","span"] (spM K 3 "Walk" Xa5 Xfr))(Xgc:Cal P w K mg base "figured_span" 1 ["span","plane","figure"] (spV K 3 Xh3))(Xhl:Cal P w K mg base "signed_span" 1 ["plane","below"] (spV K 2 Xja))(Xel:CalM P w K mg base "Walk" "wake" 2 ["self","part"] (spM K 2 "Walk" Xa5 Xh5))(Xj3:CalM P w K mg base "Walk" "calm" 3 ["self","part"] (spM K 2 "Walk" Xa5 Xl5))(Xem:CalM P w K mg base "Walk" "turn" 1 ["self"] (spM K 1 "Walk" Xa5 Xh6)):
  CalM P w K mg base "Walk" "take" 4 ["self","told"] (spM K 2 "Walk" Xa5 Xh7):=by
 refine CalM.of Df Xl8 (by walk_at "b") rfl (λc A o s H E hr=>⟨_,_,(Xah (Xa9 (i:=2) Xl8.nd rfl (Or.inl rfl) (Yam plainAttrs_list PySem.F.slot_list_pop PySem.F.type_list_pop Yfw (Xb2 (pv 0) rfl)))
   (Xah (Xsn (pv 0) Xaj Yla)
   (Xah (Xcm (Xbq Xln (Xax Xas (pv 2) (Xao (by rfl) Xiq) (λ_ _=>rfl)) (Xao (by rfl) Xe4) (Xbo _)) (Xal (Xbl (Xfl Xc2 (hr.mono (by decide)) (pv 0) (Xaa (pv 2) (Xaa (Xa0 Xgc (hr.mono (by decide)) (by rfl) (Xaa (Xax Xas (pv 2) (Xao (by rfl) Xio) (λ_ _=>rfl)) (Xaa (Xb2 (pv 0) rfl) (Xaa (pv 1) Xad)))) Xad))))) (Xal (Xcm (Xbq Xln (Xax Xas (pv 2) (Xao (by rfl) Xiq) (λ_ _=>rfl)) (Xao (by rfl) Xky) (Xbo _)) (Xal (Xbl (Xfl Xc2 (hr.mono (by decide)) (pv 0) (Xaa (pv 2) (Xaa (Xa0 Xhl (hr.mono (by decide)) (by rfl) (Xaa (Xb2 (pv 0) rfl) (Xaa (pv 1) Xad))) Xad))))) (Xal (Xcm (Xcr (pv 1)) (Xal (Xbl (Xfl Xel (hr.mono (by decide)) (pv 0) (Xaa (pv 2) Xad)))) (Xal (Xbl (Xfl Xj3 (hr.mono (by decide)) (pv 0) (Xaa (pv 2) Xad)))))))))
   (Xal (Xcm (Xdk (Ydk (Xb2 (pv 0) rfl) (λ_=>rfl))) (Xah (Xbl (Xik plainAttrs_list PySem.F.slot_list_append PySem.F.type_list_append Xci (Xb2 (pv 0) rfl) (Xaa (Xb2 (pv 0) rfl) Xad)))
   (Xal (Xbl (Xc0 Xem (hr.mono (by decide)) (pv 0))))) Xbg))))),
  (Xam (Yg0 (j:=4) CV_Walk (by rfl))
   (Xam (Xzp (j:=1) (g:=λx y=>x+y) CV_Walk (by rfl) (λx y H Q q=>⟨_,_,rfl,rfl,q⟩) (Xap Xae))
   (Xam (Xcl (Xbp (Xaq Xlq (Xbe (OpF.b Xar) Xac (Xap Xae)) (Xap Xae))) (Xfi CV_Walk (by decide +kernel) (Xab Xag (Xab (Xb4 (Xeq (Xai (Xbe (OpF.b Xar) Xac (Xap Xae)) (Xai (Xc9 (j:=0) CV_Walk (by rfl) Xac) (Xai Xac Xan))))) Xak))) (Xcl (Xbp (Xaq Xlq (Xbe (OpF.b Xar) Xac (Xap Xae)) (Xap Xae))) (Xfi CV_Walk (by decide +kernel) (Xab Xag (Xab (Xb4 (Xeq (Xai (Xc9 (j:=0) CV_Walk (by rfl) Xac) (Xai Xac Xan)))) Xak))) (Xcl (Xmk Xag) (Xfi CV_Walk (by decide +kernel) (Xab Xag Xak)) (Xfi CV_Walk (by decide +kernel) (Xab Xag Xak)))))
   (Xcl (Xdj (Yc1 (Xc9 (j:=4) CV_Walk (by rfl) Xac))) (Xam (Xli (j:=2) CV_Walk (by rfl) (Xbk (Ydc (Xc9 (j:=1) CV_Walk (by rfl) Xac))))
   (Xfi CV_Walk (by decide +kernel) Xak)) Xbf)))),?_⟩)
 rintro a ts ds Pr ⟨w,ah,p,b,rfl,hf,rfl,e,h1,h2,hne,h⟩
 unfold Wk.ts
 gn_on
 unfold Yhc
 fin2
 refine⟨ah.map λp=>OV.fz p.d,p.d,by rw[e,map_append];rfl,?_⟩
 gp_on
 gn_on
 gp_on
 gn_on
 rw[Xpq]
 fin2
 have hah:ah.length<900000:=by
  have:=hf.2.2
  rw[e,length_append]at this
  omega
 have hwk:w.wk.length<900000:=hf.2.1
 have hre:w.re.length<900000:=hf.1
 have ep:((w.pl.toNat:Nat):Int)=w.pl:=toNat_of_nonneg h1
 have hsl:(w.step ah p b).wk.length<=w.wk.length+1/\(w.step ah p b).re=w.re:=by
  unfold Wk.step Wk.calm Wk.wake Wk.walked
  repeat (any_goals split)
  all_goals simp
 have fin:N [some (Sl.own (OV.ob (some a) (Str.ofString "Walk") Xa5 (w.step ah p b).ts)),some (Sl.own (OV.fz (D.bl b))),some (Sl.own (OV.fz (D.tup [D.int p.a,D.int p.s,D.int p.e,D.tup [D.int p.lo,D.int p.hi]])))]:=by
  gp_on
  generalize w.step ah p b=v at h hsl ⊢
  unfold Wk.ts
  fin2
  unfold Wk.rowEnd at h
  split at h
  .rename_i c
   rw[if_pos (by rw[c];rfl)]
   exact⟨by rw[hsl.2];omega,{v with re:=v.re++[v.us]},rfl,by show v.wk.length<=1000000;omega,rfl,h⟩
  .rename_i c
   rw[if_neg (by simpa using c)]
   exact h
 unfold Wk.step at fin
 split
 .rename_i c
  rw[if_pos c]at fin
  refine⟨p.lo,p.hi,w.pl.toNat,b,by rw[ep],by omega,?_⟩
  unfold Pa.figured at fin
  by_cases hb:b=decide (p.lo > 0)
  .simp only[if_pos hb]at fin ⊢
   exact⟨rfl,{w with us:=w.us+1,ah:=ah},p,_,_,rfl,by show w.wk.length<1000000;omega,rfl,fin⟩
  .simp only[if_neg hb]at fin ⊢
   exact⟨rfl,{w with us:=w.us+1,ah:=ah},p,_,_,rfl,by show w.wk.length<1000000;omega,rfl,fin⟩
 .rename_i c
  rw[if_neg c]at fin
  split
  .rename_i c2
   rw[if_pos c2]at fin
   refine⟨w.pl.toNat,b,by rw[ep],by omega,?_⟩
   unfold Pa.signed at fin
   by_cases hb:b=true
   .simp only[if_pos hb]at fin ⊢
    exact⟨rfl,{w with us:=w.us+1,ah:=ah},p,_,_,rfl,by show w.wk.length<1000000;omega,rfl,fin⟩
   .simp only[if_neg hb]at fin ⊢
    exact⟨rfl,{w with us:=w.us+1,ah:=ah},p,_,_,rfl,by show w.wk.length<1000000;omega,rfl,fin⟩
  .rename_i c2
   rw[if_neg c2]at fin
   split
   .rename_i c3
    rw[if_pos c3]at fin
    exact⟨{w with us:=w.us+1,ah:=ah},p,rfl,hah,rfl,fin⟩
   .rename_i c3
    rw[if_neg c3]at fin
    exact⟨{w with us:=w.us+1,ah:=ah},p,rfl,⟨by show w.wk.length<1000000;omega,hah⟩,rfl,h1,h2,λz=>hne z (by simpa using c3),fin⟩
abbrev Xfw:Stmt:=top 18
theorem Xqg:FnScope ["some"] ["some"] (Xaf Xfw):=by walk_at "S"
def Xgw:DSp:=λds P=>∃xs:List Int,ds=[.lst (xs.map .int)]/\xs.length<=1000000/\P (.nl (xs.map λx=>.fz (.int (ibN x))))
theorem Xq0 {f:Addr}{fd:FuncData}(Df:DefAt K mg "heights_of" Xfw f fd)(B:BltV mg)(KV:KitV K):
  Cal P w K mg base "heights_of" 1 ["some"] (spV K 1 Xgw):=by
 refine CalV.of Df Xqg (by walk_at "b") rfl (λc A o s H E hr=>⟨_,_,(Xal (Xa1 (Xdy rfl (Xdw (pv 0)) (show BlkScope (Xaf Xfw) _ from⟨rfl,by decide +kernel,by decide +kernel,by decide +kernel⟩) (N:=["number"]) (ix:=[none]) (show Xd1 _ _ _ _ from trivial) (λ_ _ _=>(Xau (i:=0) (show List.Nodup (["number"]:List Str) by decide +kernel) rfl (Or.inl rfl))) (λ_ _ _=>(Yam PySem.F.plainAttrs_int PySem.F.slot_int_bit_length PySem.F.type_int_bit_length Yh8 (Xay Xrg (by rfl) B.abs boot_abs (Xaa (pv 0) Xad))))))),
  (Xa4 (Xc6 (Xed Xag) Xav (Xbk (Yha (Xap (Xb0 Ycb (Xai Xac Xan))))))),?_⟩)
 rintro ds Pr ⟨xs,rfl,hx,k⟩
 fin2
 refine Xme.map xs D.int (λx=>.fz (.int (ibN x))) hx (λx _ Q q=>?_) k
 fin2
 rw[Yin]
 exact q
def Xk8 (xs:List Int)(n:Int)(p:Pa):Bool:=
 if p.a=3 then decide ((xs.getD p.s.toNat 0).natAbs / 2^n.toNat%2=1) else if p.a=2 then decide (xs.getD p.s.toNat 0<0)
 else ((xs.drop p.s.toNat).take (p.e.toNat-p.s.toNat)).any λx=>decide (n<(ibN x:Int))
def Yo7 (xs:List Int)(p:Pa):Prop:=0<=p.s/\p.s<p.e/\p.e<=(xs.length:Int)
theorem Ymb (a:Nat):Builtin.bitAnd (a:Int) 1=((a%2:Nat):Int):=by
 unfold Builtin.bitAnd
 rw[decide_eq_true (by omega:0<=(a:Int)),decide_eq_true (by omega:(0:Int)<=1)]
 dsimp only
 rw[toNat_natCast,show (1:Int).toNat=1 from rfl,Nat.and_one_is_mod]
theorem Ycc (a k:Nat):Builtin.bitAnd ((a:Int) / 2^k) 1=((a / 2^k%2:Nat):Int):=by
 rw[<- Ymb]
 congr 1
theorem Yiw {xs:List D}{i j:Int}(h0:0<=i)(h1:i<=j)(h2:j<=(xs.length:Int)):L2.Xyk xs (some i) (some j)=(xs.drop i.toNat).take (j.toNat-i.toNat):=by
 unfold L2.Xyk
 have e1:HT.sIx xs.length 0 (some i)=i.toNat:=by
  have:=HT.sIx_nat xs.length 0 i.toNat
  rw[toNat_of_nonneg h0]at this
  rw[this];omega
 have e2:HT.sIx xs.length xs.length (some j)=j.toNat:=by
  have:=HT.sIx_nat xs.length xs.length j.toNat
  rw[toNat_of_nonneg (by omega)]at this
  rw[this];(clear h0 h1 e1;omega)
 rw[e1,e2]
inductive Tell (xs:List Int):Wk->List Bool->Prop
 |done {w:Wk} (h:w.pl<0):Tell xs w []
 |step {w:Wk} {ah:List Pa} {p:Pa} {bs:List Bool} (h:0<=w.pl) (h5:w.pl<=5000) (hf:w.fits) (e:w.ah=ah++[p]) (hp:Yo7 xs p) (h1:p.a=1->Xk8 xs w.pl p=false->ah≠[]) (t:Tell xs ((w.step ah p (Xk8 xs w.pl p)).rowEnd) bs):Tell xs w (Xk8 xs w.pl p::bs)
def Xkc:DSp:=λds P=>∃(w:Wk) (ah:List Pa) (p:Pa),ds=[.obj "Walk" Xa5 (OV.vals w.ts)]/\w.ah=ah++[p]/\w.fits/\P (.fz p.d)
abbrev Xid:Stmt:=Xdh (top 13) 3
theorem Xqh:FnScope ["self"] ["self"] (Xaf Xid):=by walk_at "S"
theorem Xq2 {f:Addr}{fd:FuncData}(Df:MetAt K "Walk" "asked" "Walk.asked" Xid f fd)(B:BltV mg)(KV:KitV K)(CV_Walk:ClsV K "Walk" Xa5):
  CalM P w K mg base "Walk" "asked" 1 ["self"] (spV K 1 Xkc):=by
 refine CalP.of Df Xqh (by walk_at "b") rfl (λc A o s H E hr=>⟨_,_,(Xal (Xa1 (Xax Xbr (Xb2 (pv 0) rfl) (Xss Xl1 Xaj) (λ_ _=>rfl)))),
  (Xa4 (Xbk (Ydc (Xbe (OpF.b Xch) (Xc9 (j:=4) CV_Walk (by rfl) Xac) (Xap (Xl9 (Xap Xae))))))),?_⟩)
 rintro ds Pr ⟨w,ah,p,rfl,e,hf,h⟩
 unfold Wk.ts
 fin2
 rw[Xqu,e,map_append]
 refine⟨p.d,?_,Ykl p,h⟩
 exact Yep _ _
def Xr0:DSp:=λds P=>∃(p:Pa) (n:Int) (xs:List Int),ds=[p.d,.int n,.lst (xs.map .int),.lst (xs.map λx=>.int (ibN x))]/\Yo7 xs p/\xs.length<=1000000/\0<=n/\n<=5000/\P (.fz (.bl (Xk8 xs n p)))
abbrev Xqm:Stmt:=top 20
theorem Xsb:FnScope ["part","plane","some","heights","number"] ["part","plane","some","heights"] (Xaf Xqm):=by walk_at "S"
theorem Ya0 {f:Addr}{fd:FuncData}(Df:DefAt K mg "answer" Xqm f fd)(B:BltV mg)(KV:KitV K)(Xe4:∃t,mg "FIGURE"=some (.int 3 t))(Xky:∃t,mg "SIGN"=some (.int 2 t))(Xcf:∃t,mg "START"=some (.int 1 t))(Xiq:∃t,mg "ASKS"=some (.int 0 t))(Xgo:∃t,mg "END"=some (.int 2 t)):
  Cal P w K mg base "answer" 1 ["part","plane","some","heights"] (spV K 4 Xr0):=by
 refine CalV.of Df Xsb (by walk_at "b") rfl (λc A o s H E hr=>⟨_,_,(Xah (Xa9 (i:=4) Xsb.nd rfl (Or.inl rfl) (Xax Xbr (pv 2) (Xax Xas (pv 0) (Xao (by rfl) Xcf) (λ_ _=>rfl)) (λ_ _=>rfl)))
   (Xah (Xcm (Xbq Xln (Xax Xas (pv 0) (Xao (by rfl) Xiq) (λ_ _=>rfl)) (Xao (by rfl) Xe4) (Xbo _)) (Xal (Xa1 (Xew Xln (Xaw Yat (Xaw Xps (Xay Xrg (by rfl) B.abs boot_abs (Xaa (pv 4) Xad)) (pv 1)) Xaj) Xaj (Xbo _)))) Xbg)
   (Xah (Xcm (Xbq Xln (Xax Xas (pv 0) (Xao (by rfl) Xiq) (λ_ _=>rfl)) (Xao (by rfl) Xky) (Xbo _)) (Xal (Xa1 (Xew Xn1 (pv 4) Xaj (Xbo _)))) Xbg)
   (Xal (Xa1 (Xew Yhs (Xay (Xts rfl) (by rfl) B.max boot_max (Xaa (Xdx Xmt (pv 3) (Xc7 (Xax Xas (pv 0) (Xao (by rfl) Xcf) (λ_ _=>rfl))) (Xc7 (Xax Xas (pv 0) (Xao (by rfl) Xgo) (λ_ _=>rfl)))) Xad)) (pv 1) (Xbo _))))))),
  (Xam (Xa8 (Xbk (Xbj Xch Xag (Xbj Xar Xag Xae))))
   (Xam (Xcl (Xbp (Xaq Xlq (Xbe (OpF.b Xar) Xac (Xap Xae)) (Xap Xae))) (Xa4 (Xbk (Xaq Xlq (Xap (Xaq Xb5 (Xap (Xaq Xdd (Xap (Xb0 Ycb (Xai Xac Xan))) Xac)) (Xap Xae))) (Xap Xae)))) Xbf)
   (Xam (Xcl (Xbp (Xaq Xlq (Xbe (OpF.b Xar) Xac (Xap Xae)) (Xap Xae))) (Xa4 (Xbk (Xaq Xf9 Xac (Xap Xae)))) Xbf)
   (Xa4 (Xbk (Xaq Xf9 (Xap (Xb0 Yb9 (Xai (Xap (Xb4 (Xv2 Xag (Xi9 (Xbe (OpF.b Xar) Xac (Xap Xae))) (Xi9 (Xbe (OpF.b Xar) Xac (Xap Xae)))))) Xan))) Xac)))))),?_⟩)
 rintro ds Pr ⟨p,n,xs,rfl,⟨hp1,hp2,hp3⟩,hx,hn0,hn,h⟩
 rw[Xpq]
 gn_on
 refine⟨_,Xi8 hp1 (by omega),?_⟩
 gp_on
 fin2
 unfold Xk8 at h
 split
 .rename_i c
  rw[if_pos c]at h
  refine⟨hn0,?_⟩
  rw[Ycc]
  generalize (xs.getD p.s.toNat 0).natAbs / 2^n.toNat%2=t at h ⊢
  rw[decide_eq_decide.mpr (show ((t:Nat):Int)=1↔t=1 by omega)]
  exact h
 .rename_i c
  rw[if_neg c]at h
  split
  .rename_i c2
   rw[if_pos c2]at h
   exact h
  .rename_i c2
   rw[if_neg c2]at h
   refine⟨((xs.drop p.s.toNat).take (p.e.toNat-p.s.toNat)).map λx=>(ibN x:Int),?_,?_,λδ hM hA=>?_⟩
   .rw [map_map,Yiw hp1 (by omega) (by simpa using hp3),<- List.map_drop,<- List.map_take,map_map,map_map]
    rfl
   .rw [length_map,length_take,length_drop]
    omega
   .have e:(((xs.drop p.s.toNat).take (p.e.toNat-p.s.toNat)).any λx=>decide (n<(ibN x:Int)))=decide (δ > n):=by
     rw[Bool.eq_iff_iff,any_eq_true,decide_eq_true_eq]
     constructor
     .rintro ⟨x,hx1,hx2⟩
      have:=hA _ (mem_map.mpr ⟨x,hx1,rfl⟩)
      have:=of_decide_eq_true hx2
      omega
     .intro z
      obtain⟨x,hx1,hx2⟩:=mem_map.mp hM
      exact⟨x,hx1,decide_eq_true (by omega)⟩
    rw[e]at h
    exact h
def Xy6:DSp:=λds P=>∃(xs:List Int) (n:Nat) (bs:List Bool),ds=[.lst (xs.map .int),.int n]/\xs.length<=1000000/\n<=5000/\bs.length<=900000/\Tell xs (Wk.turn ⟨n,0,[],[⟨0,0,xs.length,1-2^n,2^n-1⟩],[]⟩) bs/\P (.fz (.str (Txt.join "" (bs.map Xk7))))
abbrev Xzj:Stmt:=top 21
theorem Xnh:FnScope ["some","planes","walk","heights","bits","bit"] ["some","planes"] (Xaf Xzj):=by walk_at "S"
theorem Yhw {f:Addr}{fd:FuncData}(Df:DefAt K mg "told" Xzj f fd)(B:BltV mg)(KV:KitV K)(CV_Walk:ClsV K "Walk" Xa5)(Xck:CalK P w K mg base "Walk" 2 ["self","many","planes"] (spM K 3 "Walk" Xa5 Xev))(Xdn:Cal P w K mg base "heights_of" 1 ["some"] (spV K 1 Xgw))(Xba:CalM P w K mg base "Walk" "is_whole" 1 ["self"] (spV K 1 Xcq))(Xrm:Cal P w K mg base "answer" 1 ["part","plane","some","heights"] (spV K 4 Xr0))(Xix:CalM P w K mg base "Walk" "asked" 1 ["self"] (spV K 1 Xkc))(Xen:CalM P w K mg base "Walk" "take" 4 ["self","told"] (spM K 2 "Walk" Xa5 Xh7)):
  Cal P w K mg base "told" 5 ["some","planes"] (spV K 2 Xy6):=by
 refine CalV.of Df Xnh (by walk_at "b") rfl (λc A o s H E hr=>⟨_,_,(Xah (Xa9 (i:=2) Xnh.nd rfl (Or.inl rfl) (Xuk Xck (hr.mono (by decide)) (by rfl) (Xaa (Xay Xa2 (by rfl) B.len boot_len (Xaa (pv 0) Xad)) (Xaa (pv 1) Xad))))
   (Xah (Xa9 (i:=3) Xnh.nd rfl (Or.inl rfl) (Xa0 Xdn (hr.mono (by decide)) (by rfl) (Xaa (pv 0) Xad)))
   (Xah (Xa9 (i:=4) Xnh.nd rfl (Or.inl rfl) (Xb8 Xad))
   (Xah (Xwb PassesOwn.never (Xdk (Xcr (Xc0 Xba (hr.mono (by decide)) (pv 2)))) (Xah (Xa9 (i:=5) Xnh.nd rfl (Or.inl rfl) (Xa0 Xrm (hr.mono (by decide)) (by rfl) (Xaa (Xc0 Xix (hr.mono (by decide)) (pv 2)) (Xaa (Xb2 (pv 2) rfl) (Xaa (pv 0) (Xaa (pv 3) Xad))))))
   (Xah (Xbl (Xik plainAttrs_list PySem.F.slot_list_append PySem.F.type_list_append Xci (pv 4) (Xaa (Xwg (Xcr (pv 5)) Xij Xij) Xad)))
   (Xal (Xbl (Xfl Xen (hr.mono (by decide)) (pv 2) (Xaa (pv 5) Xad)))))))
   (Xal (Xa1 (Xik PySem.F.plainAttrs_str PySem.F.slot_str_join PySem.F.type_str_join Yh6 Xij (Xaa (pv 4) Xad)))))))),
  (Xam (Xa8 (Xue CV_Walk (Xab (Xb0 Xcx (Xai Xac Xan)) (Xab Xag Xak))))
   (Xam (Xa8 (Xbk (Xb4 (Xat (Xab Xag Xak)))))
   (Xam (Xa8 (Xc4 Xb7))
   (Xam (Xv1 (Xdj (Xmk (Xb4 (Xdt CV_Walk (by decide +kernel) Xac Xan)))) (Xam (Xa8 (Xbk (Xb4 (Xeq (Xai (Xap (Xb4 (Xdt CV_Walk (by decide +kernel) Xac Xan))) (Xai (Xc9 (j:=0) CV_Walk (by rfl) Xac) (Xai Xac (Xai Xac Xan))))))))
   (Xam (Xse (Xbk (Yj1 (Xmk Xag) Xif Xif)))
   (Xfi CV_Walk (by decide +kernel) (Xab Xag Xak)))))
   (Xa4 (Xbk (Yg8 (Xap Xif) Xac))))))),?_⟩)
 rintro ds Pr ⟨xs,n,bs,rfl,hx,hn,hb,ht,h⟩
 gn_on
 refine⟨xs.length,n,rfl,rfl,hn,?_⟩
 gp_on
 gn_on
 refine⟨xs,rfl,hx,?_⟩
 gp_on
 gn_on
 gp_on
 gn_on
 rw[map_map]
 refine⟨λm M=>∃(w:Wk) (rs ds:List Bool) (o:Option Sl),m=rs.length/\Tell xs w rs/\ds++rs=bs/\M=[some (Sl.own (OV.fz (D.lst (List.map D.int xs)))),some (Sl.own (OV.fz (D.int n))),some (Sl.own (OV.ob none (Str.ofString "Walk") Xa5 w.ts)),some (Sl.own (OV.fz (D.lst (xs.map λx=>D.int (ibN x))))),some (Sl.own (OV.nl (ds.map λb=>OV.fz (D.str (Xk7 b))))),o],⟨_,_,bs,[],none,rfl,ht,rfl,rfl⟩,?_⟩
 rintro m M ⟨w,rs,ds,o,rfl,hT,hbs,rfl⟩
 fin2
 refine⟨w,rfl,?_⟩
 fin2
 cases hT with
 |done hl=>
  rw[if_neg (by simp[hl])]
  gp_on
  rw[append_nil]at hbs
  subst hbs
  fin2
  refine⟨ds.map Xk7,by rw[map_map,map_map];rfl,?_,h⟩
  have e:∀l:List Bool,((l.map Xk7).map (·.length)).sum=l.length:=by
   intro l
   induction l with
   |nil=>rfl
   |cons b l ih=>
    rw[map_cons,map_cons,List.sum_cons,ih,length_cons,Xmz]
    omega
  rw[e,length_map]
  show ds.length+ds.length*0<=16777216
  omega
 | @step _ ah p bs' h0 h5 hf e hp h1 t=>
  rw[if_pos (by simp;omega)]
  refine⟨w,ah,p,by rw[OV.vals_eq],e,hf,?_⟩
  fin2
  refine⟨Ykl p,_,rfl,p,w.pl,xs,rfl,hp,hx,h0,h5,?_⟩
  have hl:ds.length<1000000:=by
   have:=congrArg List.length hbs
   rw[length_append]at this
   omega
  fin2
  refine⟨hl,?_⟩
  cases hA:Xk8 xs w.pl p with
  |true=>
   rw[hA]at t h1 hbs
   rw[if_pos rfl]
   refine⟨w,ah,p,true,rfl,hf,rfl,e,h0,h5,h1,?_⟩
   refine⟨bs'.length,by simp,_,bs',ds++[true],some (Sl.own (OV.fz (D.bl true))),rfl,t,by simpa using hbs,?_⟩
   rw[map_append]
   rfl
  |false=>
   rw[hA]at t h1 hbs
   rw[if_neg (by decide)]
   refine⟨w,ah,p,false,rfl,hf,rfl,e,h0,h5,h1,?_⟩
   refine⟨bs'.length,by simp,_,bs',ds++[false],some (Sl.own (OV.fz (D.bl false))),rfl,t,by simpa using hbs,?_⟩
   rw[map_append]
   rfl
theorem Xyd {x:Int}{k:Nat}:2^k<=x.natAbs↔k<ibN x:=by
 unfold ibN
 split
 .rename_i h
  subst h
  have:=two_pow_pos k
  simp
 .rename_i h
  rw[<- Nat.le_log2 (by omega)]
  omega
def Kn (x:Int)(k:Nat)(lo hi:Int):Prop:=lo<=x/\x<=hi/\hi-lo=2^k-1/\((∃q:Int,0<q/\lo=q*2^k)∨(∃q:Int,0<q/\hi = -(q*2^k)))
theorem Ymq {P:Prop}[Decidable P]:(true=decide P)↔P:=by rw[eq_comm,decide_eq_true_eq]
theorem Yni {P:Prop}[Decidable P]:(false=decide P)↔¬ P:=by rw[eq_comm,decide_eq_false_iff_not]
theorem Xqv (k:Nat):(0:Int)<2^k:=Int.pow_pos (by decide)
theorem Xpr (k:Nat):(2:Int)^(k+1)=2*2^k:=by rw[Int.pow_succ,Int.mul_comm]
theorem Kn.le {x:Int}{k:Nat}{lo hi:Int}(h:Kn x k lo hi):2^k<=(x.natAbs:Int):=by
 obtain⟨h1,h2,h3,h4⟩:=h
 have hp:=Xqv k
 rcases h4 with⟨q,hq,rfl⟩ | ⟨q,hq,rfl⟩
 .have:1*2^k<=q*2^k:=Int.mul_le_mul_of_nonneg_right (by omega) (by omega)
  omega
 .have:1*2^k<=q*2^k:=Int.mul_le_mul_of_nonneg_right (by omega) (by omega)
  omega
theorem Yl9 {y u r c:Nat}(hc:0<c)(hu:∃q,u=q*c)(hy:y=2*u+r)(hr:r<2*c):y / c%2=1↔c<=r:=by
 obtain⟨q,rfl⟩:=hu
 have e:y / c=2*q+r / c:=by
  rw[hy,show 2*(q*c)+r=r+2*q*c by rw[Nat.mul_assoc];omega,Nat.add_mul_div_right _ _ hc,Nat.add_comm]
 rw[e]
 by_cases hz:c<=r
 .have:r / c=1:=Nat.div_eq_of_lt_le (by (clear hr;omega)) (by omega)
  clear hr;omega
 .have:r / c=0:=Nat.div_eq_of_lt (by (clear hr;omega))
  clear hr;omega
theorem Kn.neg {x:Int}{k:Nat}{lo hi:Int}(h:Kn x k lo hi):Kn (-x) k (-hi) (-lo):=by
 obtain⟨h1,h2,h3,h4⟩:=h
 refine⟨neg_le_neg h2,neg_le_neg h1,by rw[<- h3];omega,?_⟩
 rcases h4 with⟨q,hq,e⟩ | ⟨q,hq,e⟩
 .exact .inr ⟨q,hq,by rw[e]⟩
 .exact .inl ⟨q,hq,by rw[e,neg_neg]⟩
theorem Yfy {x:Int}{k:Nat}{lo hi:Int}:Kn (-x) k (-hi) (-lo)↔Kn x k lo hi:=⟨λh=>by have:=h.neg;rwa[neg_neg,neg_neg,neg_neg]at this,Kn.neg⟩
theorem Ykz {x lo hi q:Int}{k:Nat}(h1:lo<=x)(h2:x<=hi)(h3:hi-lo=2^(k+1)-1)(hq:0<q)(e:lo=q*2^(k+1)):
  lo > 0/\(Kn x k (lo+2^k) hi↔x.natAbs / 2^k%2=1)/\(Kn x k lo (hi-2^k)↔¬ x.natAbs / 2^k%2=1):=by
 have hk:=two_pow_pos k
 have hcast:(2:Int)^k=((2^k:Nat):Int):=by simp
 unfold Kn
 rw[Xpr,hcast]at h3 e
 rw[hcast]
 generalize (2^k:Nat)=c at *
 clear hcast
 obtain⟨qn,rfl⟩:∃n:Nat,q=n:=⟨q.toNat,(toNat_of_nonneg (Int.le_of_lt hq)).symm⟩
 have hpos:0<qn*c:=mul_pos (Int.ofNat_lt.mp hq) hk
 have e':lo=((2*(qn*c):Nat):Int):=by rw[e];push_cast;rw[mul_left_comm]
 have f1:lo+(c:Int)=(2*(qn:Int)+1)*c:=by rw[e,Int.add_mul,mul_assoc,mul_left_comm,one_mul]
 have f2:lo=2*(qn:Int)*c:=by rw[e,mul_assoc,mul_left_comm]
 clear e
 generalize hm:qn*c=m at hpos e'
 obtain⟨xn,rfl⟩:∃n:Nat,x=n:=⟨x.toNat,(toNat_of_nonneg (by omega)).symm⟩
 have key:=Yl9 (y:=xn) (u:=m) (r:=xn-2*m) hk ⟨qn,hm.symm⟩ (by clear h2 h3 f1 f2;omega) (by clear f1 f2;omega)
 rw[Int.natAbs_natCast,key]
 have q1:(0:Int)<2*(qn:Int)+1:=by clear f1 f2;omega
 have q2:(0:Int)<2*(qn:Int):=by clear f1 f2;omega
 have g1:lo+(c:Int)<=xn↔c<=xn-2*m:=by clear h2 h3 f1 f2;omega
 have g2:(xn:Int)<=hi-c↔¬ c<=xn-2*m:=by clear f1 f2;omega
 exact⟨by rw[f2];exact Int.mul_pos q2 (Int.ofNat_lt.mpr hk),⟨λg=>g1.mp g.1,λg=>⟨g1.mpr g,h2,by omega,.inl ⟨_,q1,f1⟩⟩⟩,⟨λg=>g2.mp g.2.1,λg=>⟨h1,g2.mpr g,by omega,.inl ⟨_,q2,f2⟩⟩⟩⟩
theorem Kn.figured {x:Int}{k:Nat}{p:Pa}{b:Bool}(h:Kn x (k+1) p.lo p.hi):Kn x k (p.figured k b).lo (p.figured k b).hi↔b=decide (x.natAbs / 2^k%2=1):=by
 obtain⟨h1,h2,h3,h4⟩:=h
 unfold Pa.figured
 rcases h4 with⟨q,hq,e⟩ | ⟨q,hq,e⟩
 .obtain ⟨a1,a2,a3⟩:=Ykz h1 h2 h3 hq e
  rw[decide_eq_true a1]
  cases b with
  |true=>rw[if_pos rfl,Ymq,<- a2]
  |false=>rw[if_neg (by decide),Yni,<- a3]
 .obtain ⟨a1,a2,a3⟩:=Ykz (x:=-x) (lo:=-p.hi) (hi:=-p.lo) (neg_le_neg h2) (neg_le_neg h1) (by rw[<- h3];omega) hq (by rw[e,neg_neg])
  have hd:decide (p.lo > 0)=false:=decide_eq_false (by omega)
  rw[hd]
  rw[Int.natAbs_neg,show -p.hi+2^k = -(p.hi-2^k) by omega,Yfy]at a2
  rw[Int.natAbs_neg,show -p.lo-2^k = -(p.lo+2^k) by omega,Yfy]at a3
  cases b with
  |true=>rw[if_neg (by decide),Ymq,<- a2]
  |false=>rw[if_pos rfl,Yni,<- a3]
theorem Kn.signed {x:Int}{k:Nat}{p:Pa}{b:Bool}(h1:2^k<=x.natAbs)(h2:x.natAbs<2^(k+1)):Kn x k (p.signed k b).lo (p.signed k b).hi↔b=decide (x<0):=by
 have hk:=two_pow_pos k
 have hcast:(2:Int)^k=((2^k:Nat):Int):=by simp
 rw[Nat.pow_succ]at h2
 unfold Kn Pa.signed
 rw[hcast]
 generalize (2^k:Nat)=c at *
 cases b with
 |true=>
  rw[if_pos rfl,Ymq]
  dsimp only
  constructor
  .rintro ⟨_,g1,_⟩;omega
  .intro g
   exact⟨by omega,by omega,by omega,.inr ⟨1,by omega,by omega⟩⟩
 |false=>
  rw[if_neg (by decide),Yni]
  dsimp only
  constructor
  .rintro ⟨g1,_⟩;omega
  .intro g
   exact⟨by omega,by omega,by omega,.inl ⟨1,by omega,by omega⟩⟩
def ShK (k:Nat)(lo hi:Int):Prop:=hi-lo=2^k-1/\((∃q:Int,0<q/\lo=q*2^k)∨(∃q:Int,0<q/\hi = -(q*2^k)))
def ShW (k:Nat)(p:Pa):Prop:=0<=p.s/\p.s<p.e/\((p.a=3/\p.e=p.s+1/\ShK k p.lo p.hi)∨(p.a=0/\p.lo=1-2^k/\p.hi=2^k-1))
def ShA (k:Nat)(p:Pa):Prop:=0<=p.s/\p.s<p.e/\((p.a=3/\p.e=p.s+1/\ShK k p.lo p.hi)∨((p.a=0∨p.a=1)/\p.lo=1-2^k/\p.hi=2^k-1)∨(p.a=2/\p.e=p.s+1/\p.lo=1-2^k/\p.hi=2^k-1))
def Low (xs:List Int)(k:Nat)(s e:Int):Prop:=∀i:Nat,s<=i->(i:Int)<e->(xs.getD i 0).natAbs<2^k
def Big (xs:List Int)(k:Nat)(s e:Int):Prop:=∃i:Nat,s<=i/\(i:Int)<e/\2^k<=(xs.getD i 0).natAbs
def CW (xs:List Int)(k:Nat)(p:Pa):Prop:=(p.a=3->p.lo<=xs.getD p.s.toNat 0/\xs.getD p.s.toNat 0<=p.hi)/\(p.a=0->Low xs k p.s p.e)
def CA (xs:List Int)(k:Nat)(p:Pa):Prop:=(p.a=3->p.lo<=xs.getD p.s.toNat 0/\xs.getD p.s.toNat 0<=p.hi)/\(p.a≠3->Low xs (k+1) p.s p.e)/\(p.a=2->Big xs k p.s p.e)
theorem Xn5 {xs:List Int}{k:Nat}{s e:Int}:¬ Low xs k s e↔Big xs k s e:=by
 unfold Low Big
 constructor
 .intro h
  exact Classical.byContradiction λz=>h λi h1 h2=>Nat.lt_of_not_le λy=>z ⟨i,h1,h2,y⟩
 .rintro ⟨i,h1,h2,h3⟩ h
  have:=h i h1 h2
  omega
theorem Low.mono {xs:List Int}{k l:Nat}{s e:Int}(h:Low xs k s e)(hl:k<=l):Low xs l s e:=λi h1 h2=>lt_of_lt_of_le (h i h1 h2) (pow_le_pow_right (by decide) hl)
theorem Low.split {xs:List Int}{k:Nat}{s m e:Int}(h1:s<=m)(h2:m<=e):Low xs k s e↔Low xs k s m/\Low xs k m e:=by
 constructor
 .intro h
  exact⟨λi a b=>h i a (by omega),λi a b=>h i (by omega) b⟩
 .rintro ⟨a,b⟩ i c d
  by_cases z:(i:Int)<m
  .exact a i c z
  .exact b i (by omega) d
theorem Big.split {xs:List Int}{k:Nat}{s m e:Int}(h1:s<=m)(h2:m<=e):Big xs k s e↔Big xs k s m∨Big xs k m e:=by
 rw[<- Xn5,Low.split h1 h2,<- Xn5,<- Xn5]
 exact⟨λz=>(Classical.em _).elim (λa=>.inr λb=>z ⟨a,b⟩) .inl,λz ⟨a,b⟩=>z.elim (λc=>c a) λc=>c b⟩
theorem Yi3 {xs:List Int}{k:Nat}{p:Pa}(h3:p.a≠3)(h2:p.a≠2)(h0:0<=p.s)(h1:p.s<p.e)(he:p.e<=(xs.length:Int)):Xk8 xs (k:Int) p=true↔Big xs k p.s p.e:=by
 unfold Xk8 Big
 rw[if_neg h3,if_neg h2,any_eq_true]
 constructor
 .rintro ⟨x,hx,hk⟩
  obtain⟨i,hi⟩:=mem_iff_getElem?.mp hx
  have hil:=(List.getElem?_eq_some_iff.mp hi).1
  rw[length_take,length_drop]at hil
  rw[List.getElem?_take_of_lt (by omega),getElem?_drop]at hi
  refine⟨p.s.toNat+i,by omega,by omega,?_⟩
  rw[getD_eq_getElem?_getD,hi]
  show 2^k<=x.natAbs
  exact Xyd.mpr (by have:=of_decide_eq_true hk;omega)
 .rintro ⟨i,a,b,c⟩
  refine⟨xs.getD i 0,mem_iff_getElem?.mpr ⟨i-p.s.toNat,?_⟩,decide_eq_true (by have:=Xyd.mp c;omega)⟩
  rw[List.getElem?_take_of_lt (by (clear c;omega)),getElem?_drop,show p.s.toNat+(i-p.s.toNat)=i by (clear h0 he c;omega),getD_eq_getElem?_getD,getElem?_eq_getElem (by omega)]
  rfl
theorem Xpy {x:Int}{k:Nat}{lo hi:Int}:Kn x k lo hi↔ShK k lo hi/\lo<=x/\x<=hi:=by
 unfold Kn ShK
 constructor
 .rintro ⟨a,b,c,d⟩;exact⟨⟨c,d⟩,a,b⟩
 .rintro ⟨⟨c,d⟩,a,b⟩;exact⟨a,b,c,d⟩
theorem ShK.figured {k:Nat}{p:Pa}{b:Bool}(h:ShK (k+1) p.lo p.hi):ShK k (p.figured k b).lo (p.figured k b).hi/\p.lo<=(p.figured k b).lo/\(p.figured k b).hi<=p.hi:=by
 obtain⟨h3,h4⟩:=h
 rw[Xpr]at h3 h4
 have hk:=Xqv k
 unfold ShK Pa.figured
 generalize (2:Int)^k=c at *
 split
 .rename_i hb
  dsimp only
  refine⟨⟨by omega,?_⟩,by omega,by omega⟩
  rcases h4 with⟨q,hq,e⟩ | ⟨q,hq,e⟩
  .exact .inl ⟨2*q+1,by omega,by rw[e,Int.add_mul,mul_left_comm,mul_assoc];omega⟩
  .exact .inr ⟨2*q,by omega,by rw[e,mul_left_comm,mul_assoc]⟩
 .rename_i hb
  dsimp only
  refine⟨⟨by omega,?_⟩,by omega,by omega⟩
  rcases h4 with⟨q,hq,e⟩ | ⟨q,hq,e⟩
  .exact .inl ⟨2*q,by omega,by rw[e,mul_left_comm,mul_assoc]⟩
  .exact .inr ⟨2*q+1,by omega,by rw[e,Int.add_mul,mul_left_comm,mul_assoc];omega⟩
theorem ShK.signed {k:Nat}{p:Pa}{b:Bool}:ShK k (p.signed k b).lo (p.signed k b).hi:=by
 unfold ShK Pa.signed
 have hk:=Xqv k
 generalize (2:Int)^k=c at *
 split
 .exact ⟨by dsimp only;omega,.inr ⟨1,by omega,by dsimp only;omega⟩⟩
 .exact ⟨by dsimp only;omega,.inl ⟨1,by omega,by dsimp only;omega⟩⟩
theorem Yit {xs:List Int}{k:Nat}{p:Pa}{b:Bool}(h3:p.a=3)(hs:ShK (k+1) p.lo p.hi):CW xs k (p.figured k b)↔CA xs k p/\b=Xk8 xs (k:Int) p:=by
 have ha:Xk8 xs (k:Int) p=decide ((xs.getD p.s.toNat 0).natAbs / 2^k%2=1):=by
  unfold Xk8
  rw[if_pos h3]
  rfl
 have fa:(p.figured k b).a=3/\(p.figured k b).s=p.s/\(p.figured k b).e=p.e:=by unfold Pa.figured;split<;>exact⟨rfl,rfl,rfl⟩
 obtain⟨g1,g2,g3⟩:=hs.figured (p:=p) (b:=b)
 rw[ha]
 unfold CW CA
 rw[fa.1,fa.2.1,fa.2.2]
 generalize xs.getD p.s.toNat 0=x
 constructor
 .rintro ⟨h,_⟩
  obtain⟨a1,a2⟩:=h rfl
  have kn:Kn x (k+1) p.lo p.hi:=Xpy.mpr ⟨hs,by omega,by omega⟩
  exact⟨⟨λ_=>⟨by omega,by omega⟩,λz=>absurd h3 z,λz=>by rw[h3]at z;cases z⟩,kn.figured.mp (Xpy.mpr ⟨g1,a1,a2⟩)⟩
 .rintro ⟨⟨h,_,_⟩,hb⟩
  have kn:Kn x (k+1) p.lo p.hi:=Xpy.mpr ⟨hs,h h3⟩
  exact⟨λ_=>(Xpy.mp (kn.figured.mpr hb)).2,λz=>by cases z⟩
theorem Yau {xs:List Int}{k:Nat}{s:Int}(h:0<=s):Low xs k s (s+1)↔(xs.getD s.toNat 0).natAbs<2^k:=by
 unfold Low
 constructor
 .intro z;exact z s.toNat (by omega) (by omega)
 .intro z i a b
  rw[show i=s.toNat by (clear z;omega)];exact z
theorem Yhv {xs:List Int}{k:Nat}{s:Int}(h:0<=s):Big xs k s (s+1)↔2^k<=(xs.getD s.toNat 0).natAbs:=by
 rw[<- Xn5,Yau h]
 omega
theorem Ygu {xs:List Int}{k:Nat}{p:Pa}{b:Bool}(h2:p.a=2)(h0:0<=p.s)(he:p.e=p.s+1):CW xs k (p.signed k b)↔CA xs k p/\b=Xk8 xs (k:Int) p:=by
 have ha:Xk8 xs (k:Int) p=decide (xs.getD p.s.toNat 0<0):=by
  unfold Xk8
  rw[if_neg (by rw[h2];decide),if_pos h2]
 have fa:(p.signed k b).a=3/\(p.signed k b).s=p.s/\(p.signed k b).e=p.e:=by unfold Pa.signed;split<;>exact⟨rfl,rfl,rfl⟩
 rw[ha]
 unfold CW CA
 rw[fa.1,fa.2.1,fa.2.2,he]
 simp only[Yau h0,Yhv h0]
 generalize xs.getD p.s.toNat 0=x
 have hp:=two_pow_pos k
 constructor
 .rintro ⟨h,_⟩
  have kn:Kn x k (p.signed k b).lo (p.signed k b).hi:=Xpy.mpr ⟨ShK.signed,h trivial⟩
  have l1:2^k<=x.natAbs:=by
   have:=kn.le
   exact_mod_cast this
  have l2:x.natAbs<2^(k+1):=by
   obtain⟨a1,a2⟩:=h trivial
   have hc:(2:Int)^k=((2^k:Nat):Int):=by simp
   rw[Nat.pow_succ]
   unfold Pa.signed at a1 a2
   rw[hc]at a1 a2
   generalize (2^k:Nat)=c at *
   split at a1
   .rename_i z
    rw[if_pos z]at a2
    dsimp only at a1 a2
    clear h2 h0 he fa;omega
   .rename_i z
    rw[if_neg z]at a2
    dsimp only at a1 a2
    clear h2 h0 he fa;omega
  exact⟨⟨(λz=>by rw[h2]at z;cases z),λ_=>l2,λ_=>l1⟩,(Kn.signed l1 l2).mp kn⟩
 .rintro ⟨⟨_,l2,l1⟩,hb⟩
  exact⟨λ_=>(Xpy.mp ((Kn.signed (p:=p) (l1 h2) (l2 (by rw[h2];decide))).mpr hb)).2,λz=>by cases z⟩
theorem Ymp {b:Bool}:(true=b)↔b=true:=eq_comm
theorem Ynh {b:Bool}:(false=b)↔¬ b=true:=by cases b<;>simp
def Xyl (xs:List Int)(k:Nat)(ah:List Pa):Prop:=∀r q p,ah=r++[q,p]->p.a=1->Big xs k p.s q.e
def CAs (xs:List Int)(k:Nat)(ah:List Pa):Prop:=(∀p∈ah,CA xs k p)/\Xyl xs k ah
theorem Xnx {xs:List Int}{k:Nat}{ah:List Pa}{p:Pa}(h:p.a≠1):Xyl xs k (ah++[p]):=λr q p' e h'=>by
 have:ah++[p]=(r++[q])++[p']:=by rw[e];simp
 obtain⟨_,e2⟩:=append_inj' this rfl
 rw[List.cons.inj e2 |>.1]at h
 exact absurd h' h
theorem Xkq {xs:List Int}{k:Nat}{ah:List Pa}(h:∀z∈ah,z.a≠1):Xyl xs k ah:=λr q p e h'=>absurd h' (h p (by rw[e];simp))
theorem Xqt {xs:List Int}{k:Nat}{ah:List Pa}{q p:Pa}(h:p.a=1):Xyl xs k (ah++[q,p])↔Big xs k p.s q.e:=by
 constructor
 .intro z;exact z ah q p rfl h
 .intro z r q' p' e _
  obtain⟨_,e2⟩:=append_inj' e rfl
  obtain⟨a,b⟩:=List.cons.inj e2
  obtain⟨c,_⟩:=List.cons.inj b
  rw[<- a,<- c];exact z
theorem Xvn {xs:List Int}{k:Nat}{w:Wk}{q:Pa}(h0:0<=q.s)(h1:q.s<q.e)(hn:∀z∈w.ah,z.a≠1):
  CAs xs k (w.wake q).ah↔(∀z∈w.ah,CA xs k z)/\Low xs (k+1) q.s q.e/\Big xs k q.s q.e:=by
 unfold Wk.wake CAs
 split
 .rename_i c
  dsimp only
  have hp:Xyl xs k (w.ah++[⟨2,q.s,q.e,q.lo,q.hi⟩]):=Xnx (by show ¬ (2:Int)=1;decide)
  have hc:CA xs k ⟨2,q.s,q.e,q.lo,q.hi⟩↔Low xs (k+1) q.s q.e/\Big xs k q.s q.e:=by
   unfold CA
   dsimp only
   exact⟨λz=>⟨z.2.1 (by decide),z.2.2 rfl⟩,λz=>⟨λy=>absurd y (by decide),λ_=>z.1,λ_=>z.2⟩⟩
  rw[forall_mem_append,forall_mem_singleton,hc]
  exact⟨λz=>z.1,λz=>⟨z,hp⟩⟩
 .rename_i c
  dsimp only
  have hm1:q.s<(q.s+q.e) / 2:=by omega
  have hm2:(q.s+q.e) / 2<q.e:=by omega
  generalize (q.s+q.e) / 2=m at hm1 hm2
  have hc:∀(a s e:Int),a≠3->a≠2->(CA xs k ⟨a,s,e,q.lo,q.hi⟩↔Low xs (k+1) s e):=by
   intro a s e n3 n2
   unfold CA
   dsimp only
   exact⟨λz=>z.2.1 n3,λz=>⟨λy=>absurd y n3,λ_=>z,λy=>absurd y n2⟩⟩
  have hp:=Xqt (xs:=xs) (k:=k) (ah:=w.ah) (q:=⟨0,m,q.e,q.lo,q.hi⟩) (p:=⟨1,q.s,m,q.lo,q.hi⟩) rfl
  rw[hp,forall_mem_append,forall_mem_cons,forall_mem_singleton,hc _ _ _ (by decide) (by decide),hc _ _ _ (by decide) (by decide)]
  have hs:=Low.split (xs:=xs) (k:=k+1) (s:=q.s) (m:=m) (e:=q.e) (by omega) (by omega)
  dsimp only
  exact⟨λ⟨⟨a,b,c⟩,d⟩=>⟨a,hs.mpr ⟨c,b⟩,d⟩,λ⟨a,cb,d⟩=>⟨⟨a,(hs.mp cb).2,(hs.mp cb).1⟩,d⟩⟩
theorem Xyp (w:Wk)(q:Pa):(w.wake q).wk=w.wk/\(w.wake q).pl=w.pl/\(w.wake q).us=w.us/\(w.wake q).re=w.re:=by
 unfold Wk.wake
 split<;>exact⟨rfl,rfl,rfl,rfl⟩
structure Sib (ah:List Pa) (p:Pa):Prop where
 no:∀z∈ah,z.a≠1
 sib:p.a=1->∃r q,ah=r++[q]/\q.a=0/\q.s=p.e/\q.s<q.e/\0<=q.s
def Yes (xs:List Int)(k:Nat)(w:Wk):Prop:=(∀p∈w.wk,CW xs k p)/\CAs xs k w.ah
theorem Xvt {xs:List Int}{k:Nat}{w:Wk}{ah:List Pa}{p:Pa}{b:Bool}(hk:w.pl=k)(e:w.ah=ah++[p])(hs:ShA (k+1) p)(hb:Sib ah p)(he:p.e<=(xs.length:Int)):
  Yes xs k (w.step ah p b)↔Yes xs k w/\b=Xk8 xs (k:Int) p:=by
 obtain⟨h0,h1,h2⟩:=hs
 have ek:w.pl.toNat=k:=by omega
 have hno:=hb.no
 have hpn:Xyl xs k ah:=Xkq hno
 unfold Wk.step Yes
 rw[e]
 by_cases c3:p.a=3
 .rw [if_pos c3,ek]
  dsimp only
  have hsh:ShK (k+1) p.lo p.hi:=by
   rcases h2 with z |z |z
   .exact z.2.2
   .rcases z.1 with y |y<;>rw[c3]at y<;>cases y
   .rw [c3]at z;cases z.1
  have hp:Xyl xs k (ah++[p]):=Xnx (by rw[c3];decide)
  unfold CAs
  rw[forall_mem_append,forall_mem_singleton,Yit c3 hsh,forall_mem_append,forall_mem_singleton]
  exact⟨λ⟨⟨a,b,c⟩,d,_⟩=>⟨⟨a,⟨d,b⟩,hp⟩,c⟩,λ⟨⟨a,⟨d,b⟩,_⟩,c⟩=>⟨⟨a,b,c⟩,d,hpn⟩⟩
 .rw [if_neg c3]
  by_cases c2:p.a=2
  .rw [if_pos c2,ek]
   dsimp only
   have hsh:p.e=p.s+1:=by
    rcases h2 with z |z |z
    .rw [c2]at z;cases z.1
    .rcases z.1 with y |y<;>rw[c2]at y<;>cases y
    .exact z.2.1
   have hp:Xyl xs k (ah++[p]):=Xnx (by rw[c2];decide)
   unfold CAs
   rw[forall_mem_append,forall_mem_singleton,Ygu c2 h0 hsh,forall_mem_append,forall_mem_singleton]
   exact⟨λ⟨⟨a,b,c⟩,d,_⟩=>⟨⟨a,⟨d,b⟩,hp⟩,c⟩,λ⟨⟨a,⟨d,b⟩,_⟩,c⟩=>⟨⟨a,b,c⟩,d,hpn⟩⟩
  .rw [if_neg c2]
   have hans:=Yi3 (xs:=xs) (k:=k) c3 c2 h0 h1 he
   have hca:CA xs k p↔Low xs (k+1) p.s p.e:=by
    unfold CA
    exact⟨λz=>z.2.1 c3,λz=>⟨λy=>absurd y c3,λ_=>z,λy=>absurd y c2⟩⟩
   cases b with
   |true=>
    rw[if_pos rfl,(Xyp _ _).1,Xvn h0 h1 hno,Ymp,hans]
    unfold CAs
    rw[forall_mem_append,forall_mem_singleton,hca]
    constructor
    .rintro ⟨a,d,l,g⟩
     refine⟨⟨a,⟨d,l⟩,?_⟩,g⟩
     by_cases c1:p.a=1
     .obtain ⟨r,q,rfl,_,q2,q3,_⟩:=hb.sib c1
      rw[append_assoc]
      refine (Xqt c1).mpr ?_
      obtain⟨i,i1,i2,i3⟩:=g
      exact⟨i,i1,by (clear hk he ek i3;omega),i3⟩
     .exact Xnx c1
    .rintro ⟨⟨a,⟨d,l⟩,_⟩,g⟩
     exact⟨a,d,l,g⟩
   |false=>
    rw[if_neg (by decide),Ynh,hans]
    have hcw:∀lo hi:Int,CW xs k ⟨0,p.s,p.e,lo,hi⟩↔Low xs k p.s p.e:=by
     intro lo hi
     unfold CW
     dsimp only
     exact⟨λz=>z.2 rfl,λz=>⟨λy=>absurd y (by decide),λ_=>z⟩⟩
    have hlb:Low xs k p.s p.e↔Low xs (k+1) p.s p.e/\¬ Big xs k p.s p.e:=by
     rw[<- Xn5,Classical.not_not]
     exact⟨λz=>⟨z.mono (by omega),z⟩,λz=>z.2⟩
    unfold Wk.calm
    by_cases c1:p.a=1
    .rw [if_pos c1]
     obtain⟨r,q,rfl,qa,q2,q3,q0⟩:=hb.sib c1
     have hca':CA xs k q↔Low xs (k+1) q.s q.e:=by
      unfold CA
      exact⟨λz=>z.2.1 (by rw[qa];decide),λz=>⟨(λy=>by rw[qa]at y;cases y),λ_=>z,(λy=>by rw[qa]at y;cases y)⟩⟩
     have hpr:Xyl xs k (r++[q]++[p])↔Big xs k p.s q.e:=by rw[append_assoc];exact Xqt c1
     have hbs:=Big.split (xs:=xs) (k:=k) (s:=p.s) (m:=p.e) (e:=q.e) (by (clear hk he ek;omega)) (by (clear hk he ek;omega))
     rw[(Xyp _ _).1,Xvn (by rw[getLastD_concat];exact q0) (by rw[getLastD_concat];exact q3) (by
      dsimp only
      rw[dropLast_concat]
      exact λz hz=>hno z (by simp[hz]))]
     unfold Wk.walked CAs
     dsimp only
     rw[dropLast_concat,getLastD_concat,forall_mem_append,forall_mem_singleton,hcw,hlb,hpr,hbs,forall_mem_append,forall_mem_singleton,forall_mem_append,forall_mem_singleton,hca,hca',<- q2]
     constructor
     .rintro ⟨⟨a,l,n⟩,d,lq,bq⟩
      exact⟨⟨a,⟨⟨d,lq⟩,l⟩,.inr bq⟩,n⟩
     .rintro ⟨⟨a,⟨⟨d,lq⟩,l⟩,pb⟩,n⟩
      exact⟨⟨a,l,n⟩,d,lq,pb.elim (λz=>absurd z n) id⟩
    .rw [if_neg c1]
     unfold Wk.walked CAs
     dsimp only
     have hp:Xyl xs k (ah++[p]):=Xnx c1
     rw[forall_mem_append,forall_mem_singleton,hcw,hlb,forall_mem_append,forall_mem_singleton,hca]
     exact⟨λ⟨⟨a,l,n⟩,d,_⟩=>⟨⟨a,⟨d,l⟩,hp⟩,n⟩,λ⟨⟨a,⟨d,l⟩,_⟩,n⟩=>⟨⟨a,l,n⟩,d,hpn⟩⟩
def Xd4 (xs:List Int)(w:Wk):Prop:=Yes xs w.pl.toNat w
theorem Xp9 {xs:List Int}{w:Wk}(h0:0<=w.pl)(ha:w.ah=[])(hk:∀p∈w.wk,p.a=0∨p.a=3):Xd4 xs w.turn↔Xd4 xs w:=by
 unfold Xd4 Wk.turn
 split
 .rename_i c
  dsimp only
  obtain⟨k,hk1⟩:∃k:Nat,w.pl=k+1:=⟨(w.pl-1).toNat,by omega⟩
  rw[hk1,show ((k:Int)+1-1).toNat=k by omega,show ((k:Int)+1).toNat=k+1 by omega]
  unfold Yes CAs
  rw[ha]
  have hp:Xyl xs k w.wk.reverse:=Xkq λz hz=>by
   rcases hk z (by simpa using hz) with y |y<;>rw[y]<;>decide
  have hp2:Xyl xs (k+1) ([]:List Pa):=Xkq λz hz=>by cases hz
  have hc:∀p∈w.wk,(CA xs k p↔CW xs (k+1) p):=by
   intro p hp
   unfold CA CW
   rcases hk p hp with y |y
   .rw [y]
    exact⟨λz=>⟨z.1,λ_=>z.2.1 (by decide)⟩,λz=>⟨z.1,λ_=>z.2 rfl,λy=>absurd y (by decide)⟩⟩
   .rw [y]
    exact⟨λz=>⟨z.1,λy=>absurd y (by decide)⟩,λz=>⟨z.1,λy=>absurd rfl y,λy=>absurd y (by decide)⟩⟩
  constructor
  .rintro ⟨_,a,_⟩
   exact⟨λp hp=>(hc p hp).mp (a p (by simpa using hp)),(λp hp=>by cases hp),hp2⟩
  .rintro ⟨a,_,_⟩
   exact⟨(λp hp=>by cases hp),λp hq=>(hc p (by simpa using hq)).mpr (a p (by simpa using hq)),hp⟩
 .rename_i c
  dsimp only
  have e:w.pl=0:=by omega
  rw[e]
  exact Iff.rfl
theorem Xpn {xs:List Int}{w:Wk}(h0:0<=w.pl)(hk:∀p∈w.wk,p.a=0∨p.a=3):Xd4 xs w.rowEnd↔Xd4 xs w:=by
 unfold Wk.rowEnd
 split
 .rename_i c
  exact Xp9 (w:={w with re:=w.re++[w.us]}) h0 c hk
 .exact Iff.rfl
def Xdr:Int->List Pa->Int->Prop
 |a,[],b=>a=b
 |a,p::ps,b=>p.s=a/\p.s<p.e/\Xdr p.e ps b
theorem Xon {a b:Int}:∀{ps qs:List Pa},Xdr a (ps++qs) b↔∃c,Xdr a ps c/\Xdr c qs b
 | [],qs=>by
  constructor
  .intro h;exact⟨a,rfl,h⟩
  .rintro ⟨c,h1,h2⟩;cases (show a=c from h1);exact h2
 |p::ps,qs=>by
  show (p.s=a/\p.s<p.e/\Xdr p.e (ps++qs) b)↔∃c,(p.s=a/\p.s<p.e/\Xdr p.e ps c)/\Xdr c qs b
  rw[Xon]
  constructor
  .rintro ⟨h1,h2,c,h3,h4⟩;exact⟨c,⟨h1,h2,h3⟩,h4⟩
  .rintro ⟨c,⟨h1,h2,h3⟩,h4⟩;exact⟨h1,h2,c,h3,h4⟩
theorem Xf0:∀{ps:List Pa} {a b:Int},Xdr a ps b->a+ps.length<=b
 | [],a,b,h=>by cases (show a=b from h);simp
 |p::ps,a,b,⟨h1,h2,h3⟩=>by
  have:=Xf0 h3
  simp only[length_cons]
  omega
theorem Xit:∀{ps:List Pa} {a b:Int} {p:Pa},Xdr a ps b->p∈ps->a<=p.s/\p.s<p.e/\p.e<=b
 |q :: ps,a,b,p,⟨h1,h2,h3⟩,hp=>by
  rcases mem_cons.mp hp with rfl |hp
  .have:=Xf0 h3
   exact⟨by omega,h2,by omega⟩
  .have:=Xit h3 hp
   exact⟨by omega,this.2.1,this.2.2⟩
theorem Xlw {a b:Int}{xs ys:List Pa}{p p':Pa}(h:Xdr a (xs++p::ys) b)(hs:p'.s=p.s)(he:p'.e=p.e):Xdr a (xs++p'::ys) b:=by
 rw[Xon]at h ⊢
 obtain⟨c,h1,h2,h3,h4⟩:=h
 exact⟨c,h1,by rw[hs];exact h2,by rw[hs,he];exact h3,by rw[he];exact h4⟩
theorem Xvg {a b:Int}{xs ys:List Pa}{p p1 p2:Pa}(h:Xdr a (xs++p::ys) b)(h1:p1.s=p.s)(h2:p1.e=p2.s)(h3:p2.e=p.e)(h4:p1.s<p1.e)(h5:p2.s<p2.e):Xdr a (xs++p1::p2::ys) b:=by
 rw[Xon]at h ⊢
 obtain⟨c,g1,g2,g3,g4⟩:=h
 exact⟨c,g1,by rw[h1];exact g2,h4,h2.symm,h5,by rw[h3];exact g4⟩
structure Sh0 (m:Int) (k:Nat) (w:Wk):Prop where
 ch:Xdr 0 (w.wk++w.ah.reverse) m
 wk:∀p∈w.wk,ShW k p
 ah:∀p∈w.ah,ShA (k+1) p
 sib:∀ah p,w.ah=ah++[p]->Sib ah p
theorem Yjs {ah:List Pa}{p:Pa}(hn:∀z∈ah,z.a≠1)(hp:p.a≠1):∀ah' p',ah++[p]=ah'++[p']->Sib ah' p':=λah' p' e=>by
 obtain⟨rfl,e2⟩:=append_inj' e rfl
 cases e2
 exact⟨hn,λz=>absurd z hp⟩
theorem Xzc {ah:List Pa}(hn:∀z∈ah,z.a≠1):∀ah' p',ah=ah'++[p']->Sib ah' p':=λah' p' e=>
 ⟨λz hz=>hn z (by rw[e];simp[hz]),λz=>absurd z (hn p' (by rw[e];simp))⟩
theorem Xpd {m:Int}{k:Nat}{w:Wk}{q:Pa}(h0:0<=q.s)(h1:q.s<q.e)(hq:q.lo=1-2^(k+1)/\q.hi=2^(k+1)-1)(hc:Xdr 0 (w.wk++q::w.ah.reverse) m)(hw:∀p∈w.wk,ShW k p)(ha:∀p∈w.ah,ShA (k+1) p)(hn:∀z∈w.ah,z.a≠1):Sh0 m k (w.wake q):=by
 unfold Wk.wake
 split
 .rename_i c
  refine⟨?_,hw,?_,?_⟩
  .show Xdr 0 (w.wk++(w.ah++[_]).reverse) m
   rw[reverse_append]
   exact Xlw hc rfl rfl
  .intro p hp
   rcases mem_append.mp hp with z |z
   .exact ha p z
   .rw [mem_singleton.mp z]
    exact⟨h0,h1,.inr (.inr ⟨rfl,by show q.e=q.s+1;omega,hq.1,hq.2⟩)⟩
  .exact Yjs hn (by show ¬ (2:Int)=1;decide)
 .rename_i c
  have hm1:q.s<(q.s+q.e) / 2:=by omega
  have hm2:(q.s+q.e) / 2<q.e:=by omega
  generalize (q.s+q.e) / 2=mid at hm1 hm2
  refine⟨?_,hw,?_,?_⟩
  .show Xdr 0 (w.wk++(w.ah++[_,_]).reverse) m
   rw[reverse_append]
   exact Xvg hc rfl rfl rfl hm1 hm2
  .intro p hp
   rcases mem_append.mp hp with z |z
   .exact ha p z
   .rcases mem_cons.mp z with z |z
    .rw [z];exact⟨by show 0<=mid;omega,hm2,.inr (.inl ⟨.inl rfl,hq.1,hq.2⟩)⟩
    .rw [mem_singleton.mp z];exact⟨h0,hm1,.inr (.inl ⟨.inr rfl,hq.1,hq.2⟩)⟩
  .intro ah' p' e
   have e':(w.ah++[⟨0,mid,q.e,q.lo,q.hi⟩])++[⟨1,q.s,mid,q.lo,q.hi⟩]=ah'++[p']:=by rw[append_assoc];exact e
   obtain⟨rfl,e2⟩:=append_inj' e' rfl
   cases e2
   refine⟨λz hz=>?_,λ_=>⟨w.ah,_,rfl,rfl,rfl,hm2,by show 0<=mid;omega⟩⟩
   rcases mem_append.mp hz with y |y
   .exact hn z y
   .rw [mem_singleton.mp y];show ¬ (0:Int)=1;decide
theorem Xlb {m:Int}{k:Nat}{w:Wk}{ah:List Pa}{p:Pa}{b:Bool}(S:Sh0 m k w)(hk:w.pl=k)(e:w.ah=ah++[p]):Sh0 m k (w.step ah p b):=by
 have ek:w.pl.toNat=k:=by omega
 have hb:=S.sib ah p e
 have hA:∀z∈ah,ShA (k+1) z:=λz hz=>S.ah z (by rw[e];simp[hz])
 obtain⟨h0,h1,h2⟩:=S.ah p (by rw[e];simp)
 have hc:=S.ch
 rw[e,reverse_append]at hc
 have hc:Xdr 0 (w.wk++p::ah.reverse) m:=hc
 have put:∀p':Pa,p'.s=p.s->p'.e=p.e->ShW k p'->Sh0 m k {w with us:=w.us+1,ah:=ah,wk:=w.wk++[p']}:=λp' hs he hw=>by
  refine⟨?_,λz hz=>?_,hA,Xzc hb.no⟩
  .show Xdr 0 (w.wk++[p']++ah.reverse) m
   rw[append_assoc]
   exact Xlw hc hs he
  .rcases mem_append.mp hz with y |y
   .exact S.wk z y
   .rw [mem_singleton.mp y];exact hw
 unfold Wk.step
 by_cases c3:p.a=3
 .rw [if_pos c3,ek]
  have hsh:p.e=p.s+1/\ShK (k+1) p.lo p.hi:=by
   rcases h2 with z |z |z
   .exact z.2
   .rcases z.1 with y |y<;>rw[c3]at y<;>cases y
   .rw [c3]at z;cases z.1
  have fa:(p.figured k b).a=3/\(p.figured k b).s=p.s/\(p.figured k b).e=p.e:=by unfold Pa.figured;split<;>exact⟨rfl,rfl,rfl⟩
  exact put _ fa.2.1 fa.2.2 ⟨by rw[fa.2.1];exact h0,by rw[fa.2.1,fa.2.2];exact h1,.inl ⟨fa.1,by rw[fa.2.1,fa.2.2];exact hsh.1,(hsh.2.figured).1⟩⟩
 .rw [if_neg c3]
  by_cases c2:p.a=2
  .rw [if_pos c2,ek]
   have hsh:p.e=p.s+1:=by
    rcases h2 with z |z |z
    .rw [c2]at z;cases z.1
    .rcases z.1 with y |y<;>rw[c2]at y<;>cases y
    .exact z.2.1
   have fa:(p.signed k b).a=3/\(p.signed k b).s=p.s/\(p.signed k b).e=p.e:=by unfold Pa.signed;split<;>exact⟨rfl,rfl,rfl⟩
   exact put _ fa.2.1 fa.2.2 ⟨by rw[fa.2.1];exact h0,by rw[fa.2.1,fa.2.2];exact h1,.inl ⟨fa.1,by rw[fa.2.1,fa.2.2];exact hsh,ShK.signed⟩⟩
  .rw [if_neg c2]
   have hcalm:p.lo=1-2^(k+1)/\p.hi=2^(k+1)-1:=by
    rcases h2 with z |z |z
    .exact absurd z.1 c3
    .exact z.2
    .exact absurd z.1 c2
   split
   .exact Xpd h0 h1 hcalm hc S.wk hA hb.no
   .have hw:ShW k ⟨0,p.s,p.e,1-2^k,2^k-1⟩:=⟨h0,h1,.inr ⟨rfl,rfl,rfl⟩⟩
    unfold Wk.calm
    by_cases c1:p.a=1
    .rw [if_pos c1]
     obtain⟨r,q,rfl,qa,q2,q3,q0⟩:=hb.sib c1
     have hq:q.lo=1-2^(k+1)/\q.hi=2^(k+1)-1:=by
      rcases (hA q (by simp)).2.2 with z |z |z
      .rw [qa]at z;cases z.1
      .exact z.2
      .rw [qa]at z;cases z.1
     unfold Wk.walked
     dsimp only
     rw[dropLast_concat,getLastD_concat,ek]
     refine Xpd q0 q3 hq ?_ (λz hz=>?_) (λz hz=>hA z (by simp[hz])) λz hz=>hb.no z (by simp[hz])
     .show Xdr 0 (w.wk++[_]++q::r.reverse) m
      rw[reverse_append]at hc
      rw[append_assoc]
      exact Xlw hc rfl rfl
     .rcases mem_append.mp hz with y |y
      .exact S.wk z y
      .rw [mem_singleton.mp y];exact hw
    .rw [if_neg c1]
     unfold Wk.walked
     dsimp only
     rw[ek]
     exact put _ rfl rfl hw
theorem Xp8 {m:Int}{k:Nat}{w:Wk}(S:Sh0 m k w):∀p∈w.wk,p.a=0∨p.a=3:=λp hp=>by
 rcases (S.wk p hp).2.2 with z |z
 .exact .inr z.1
 .exact .inl z.1
structure Shp (m:Int) (w:Wk):Prop where
 sh:Sh0 m w.pl.toNat w
 ne:0<=w.pl->w.ah≠[]
 wh:w.pl<0->w.pl = -1/\w.ah=[]
theorem Xpe {m:Int}{k:Nat}{w:Wk}(hm:0<m)(S:Sh0 m k w)(hk:w.pl=k)(ha:w.ah=[]):Shp m w.turn:=by
 have hc:=S.ch
 rw[ha]at hc
 have hc:Xdr 0 (w.wk++[]) m:=hc
 rw[append_nil]at hc
 have hne:w.wk≠[]:=λz=>by
  rw[z]at hc
  have:(0:Int)=m:=hc
  omega
 unfold Wk.turn
 split
 .rename_i c
  obtain⟨j,rfl⟩:∃j,k=j+1:=⟨k-1,by omega⟩
  have ej:(w.pl-1).toNat=j:=by omega
  refine⟨?_,λ_=>by simpa using hne,λz=>?_⟩
  .show Sh0 m (w.pl-1).toNat _
   rw[ej]
   refine⟨?_,(λp hp=>by cases hp),λp hp=>?_,?_⟩
   .show Xdr 0 ([]++w.wk.reverse.reverse) m
    rw[List.reverse_reverse]
    exact hc
   .have hw:=S.wk p (by simpa using hp)
    refine⟨hw.1,hw.2.1,?_⟩
    rcases hw.2.2 with z |z
    .exact .inl z
    .exact .inr (.inl ⟨.inl z.1,z.2⟩)
   .refine Xzc λz hz=>?_
    rcases Xp8 S z (by simpa using hz) with y |y<;>rw[y]<;>decide
  .have:w.pl-1<0:=z
   omega
 .rename_i c
  have e0:k=0:=by omega
  subst e0
  refine⟨?_,λz=>?_,λ_=>⟨by show w.pl-1 = -1;omega,ha⟩⟩
  .show Sh0 m (w.pl-1).toNat _
   rw[show (w.pl-1).toNat=0 by omega]
   exact⟨S.ch,S.wk,S.ah,S.sib⟩
  .have:0<=w.pl-1:=z
   omega
theorem Xig {m:Int}{k:Nat}{w:Wk}(hm:0<m)(S:Sh0 m k w)(hk:w.pl=k):Shp m w.rowEnd:=by
 unfold Wk.rowEnd
 split
 .rename_i c
  exact Xpe (w:={w with re:=w.re++[w.us]}) hm ⟨S.ch,S.wk,S.ah,S.sib⟩ hk c
 .rename_i c
  refine⟨by rw[show w.pl.toNat=k by omega];exact S,λ_=>c,λz=>by omega⟩
theorem Xna {m:Int}(hm:0<m)(n:Nat):Shp m (Wk.turn ⟨n,0,[],[⟨0,0,m,1-2^n,2^n-1⟩],[]⟩):=by
 refine Xpe (k:=n) hm ⟨⟨rfl,hm,rfl⟩,λp hp=>?_,(λp hp=>by cases hp),λah p e=>?_⟩ rfl rfl
 .rw [mem_singleton.mp hp]
  exact⟨Int.le_refl 0,hm,.inr ⟨rfl,rfl,rfl⟩⟩
 .have:=congrArg List.length e
  simp at this
theorem Xt4 {w:Wk}{ah:List Pa}{p:Pa}{b:Bool}:(w.step ah p b).pl=w.pl/\(w.step ah p b).us=w.us+1/\(w.step ah p b).re=w.re:=by
 unfold Wk.step Wk.calm Wk.wake Wk.walked
 repeat (any_goals split)
 all_goals exact⟨rfl,rfl,rfl⟩
theorem Xxd {xs:List Int}{n:Nat}(h:∀x∈xs,x.natAbs<2^n):Xd4 xs (Wk.turn ⟨n,0,[],[⟨0,0,xs.length,1-2^n,2^n-1⟩],[]⟩):=by
 refine (Xp9 (w:=⟨n,0,[],[⟨0,0,xs.length,1-2^n,2^n-1⟩],[]⟩) (by show 0<=(n:Int);omega) rfl (λp hp=>by rw[mem_singleton.mp hp];exact .inl rfl)).mpr ?_
 unfold Xd4
 show Yes xs ((n:Int).toNat) _
 rw[toNat_natCast]
 refine⟨λp hp=>?_,(λp hp=>by cases hp),Xkq λz hz=>by cases hz⟩
 rw[mem_singleton.mp hp]
 refine⟨λz=>absurd z (by show ¬ (0:Int)=3;decide),λ_ i a b=>?_⟩
 have hi:i<xs.length:=by
  have:(i:Int)<(xs.length:Int):=b
  omega
 rw[getD_eq_getElem?_getD,getElem?_eq_getElem hi]
 exact h _ (getElem_mem hi)
def phi (p:Pa):Nat:=if p.a=3∨p.a=2 then 1 else 3*(p.e-p.s).toNat-1
def Xj4 (ps:List Pa):Nat:=(ps.map phi).sum
theorem Xko (ps qs:List Pa):Xj4 (ps++qs)=Xj4 ps+Xj4 qs:=by simp[Xj4]
theorem Xkn (p:Pa):Xj4 [p]=phi p:=by simp[Xj4]
theorem Ydq (ps:List Pa):Xj4 ps.reverse=Xj4 ps:=by
 induction ps with
 |nil=>rfl
 |cons p ps ih=>rw[reverse_cons,Xko,ih,Xkn];simp[Xj4];omega
theorem Yhn {p:Pa}(h:p.s<p.e):1<=phi p:=by
 unfold phi
 split<;>omega
theorem Ykh {p:Pa}(h:p.s<p.e):phi p<=3*(p.e-p.s).toNat:=by
 unfold phi
 split<;>omega
theorem Xpo:∀{ps:List Pa} {a b:Int},Xdr a ps b->(Xj4 ps:Int)<=3*(b-a)
 | [],a,b,h=>by cases (show a=b from h);simp[Xj4]
 |p::ps,a,b,⟨h1,h2,h3⟩=>by
  have ih:=Xpo h3
  have hp:=Ykh h2
  have e:Xj4 (p::ps)=phi p+Xj4 ps:=by simp[Xj4]
  rw[e]
  omega
theorem Xvm {w:Wk}{q:Pa}(h1:q.s<q.e)(h3:q.a≠3)(h2:q.a≠2):Xj4 (w.wake q).ah+1<=Xj4 w.ah+phi q:=by
 have hq:phi q=3*(q.e-q.s).toNat-1:=by
  unfold phi
  rw[if_neg (by rintro (z |z);exact h3 z;exact h2 z)]
 unfold Wk.wake
 split
 .dsimp only
  rw[Xko,Xkn,hq]
  show Xj4 w.ah+1+1<=_
  clear h1;omega
 .rename_i c
  dsimp only
  have hm1:q.s<(q.s+q.e) / 2:=by omega
  have hm2:(q.s+q.e) / 2<q.e:=by omega
  generalize (q.s+q.e) / 2=m at hm1 hm2
  have e:Xj4 [(⟨0,m,q.e,q.lo,q.hi⟩:Pa),⟨1,q.s,m,q.lo,q.hi⟩]=(3*(q.e-m).toNat-1)+(3*(m-q.s).toNat-1):=by
   simp[Xj4,phi]
  rw[Xko,e,hq]
  omega
theorem Xms {m:Int}{k:Nat}{w:Wk}{ah:List Pa}{p:Pa}{b:Bool}(S:Sh0 m k w)(e:w.ah=ah++[p]):Xj4 (w.step ah p b).ah+1<=Xj4 w.ah:=by
 have hb:=S.sib ah p e
 obtain⟨h0,h1,_⟩:=S.ah p (by rw[e];simp)
 have hp:=Yhn h1
 rw[e,Xko,Xkn]
 unfold Wk.step
 split
 .show Xj4 ah+1<=_;omega
 .rename_i c3
  split
  .show Xj4 ah+1<=_;omega
  .rename_i c2
   split
   .exact Xvm (w:={w with us:=w.us+1,ah:=ah}) h1 c3 c2
   .unfold Wk.calm
    split
    .rename_i c1
     obtain⟨r,q,rfl,qa,q2,q3,q0⟩:=hb.sib c1
     unfold Wk.walked
     dsimp only
     rw[dropLast_concat,getLastD_concat,Xko,Xkn]
     refine le_trans (Xvm q3 (by rw[qa];decide) (by rw[qa];decide)) ?_
     show Xj4 r+phi q<=_
     omega
    .show Xj4 ah+1<=_;omega
def mu (m:Nat)(w:Wk):Nat:=if w.pl<0 then 0 else 3*m*w.pl.toNat+Xj4 w.ah
theorem Xsj {m k:Nat}{w:Wk}(S:Sh0 m k w)(hk:w.pl=k):mu m w.rowEnd<=3*m*k+Xj4 w.ah:=by
 unfold Wk.rowEnd
 split
 .rename_i c
  unfold Wk.turn
  split
  .rename_i c2
   obtain⟨j,rfl⟩:∃j,k=j+1:=⟨k-1,by have:w.pl-1>=0:=c2;omega⟩
   unfold mu
   dsimp only
   rw[if_neg (by omega),Ydq,show (w.pl-1).toNat=j by omega]
   have hc:=S.ch
   rw[c]at hc
   have hc:Xdr 0 (w.wk++[]) m:=hc
   rw[append_nil]at hc
   have:=Xpo hc
   have e:3*m*(j+1)=3*m*j+3*m:=by rw[Nat.mul_succ]
   omega
  .rename_i c2
   unfold mu
   dsimp only
   rw[if_pos (by have:¬ w.pl-1>=0:=c2;omega)]
   omega
 .unfold mu
  rw[if_neg (by omega),show w.pl.toNat=k by omega]
  exact Nat.le_refl _
inductive Fol:Wk->List Bool->Wk->Prop
 |nil {w:Wk}:Fol w [] w
 |whole {w:Wk} {b:Bool} {bs:List Bool} (h:w.pl<0):Fol w (b::bs) w
 |step {w v:Wk} {ah:List Pa} {p:Pa} {b:Bool} {bs:List Bool} (h:0<=w.pl) (h5:w.pl<=5000) (hf:w.fits) (e:w.ah=ah++[p]) (h1:p.a=1->b=false->ah≠[]) (t:Fol ((w.step ah p b).rowEnd) bs v):Fol w (b::bs) v
def Pa.sp (p:Pa):D:=.tup [.int p.lo,.int p.hi]
def Xct (w:Wk):List D:=(w.wk++w.ah.reverse).flatMap λp=>List.replicate (p.e-p.s).toNat p.sp
def Xf5:DMo:=λts ds P=>∃(w v:Wk) (bs:List Bool),ts=w.ts/\ds=[.str (Xbv bs)]/\Fol w bs v/\P v.ts
def Xgx:DSp:=λds P=>∃w:Wk,ds=[.obj "Walk" Xa5 (OV.vals w.ts)]/\w.wk.length<400000/\w.ah.length<400000/\(Xct w).length<=900000/\(∀p∈w.wk++w.ah,0<=p.e-p.s/\p.e-p.s<=100000)/\P (.nl ((Xct w).map .fz))
def Xjn:DSp:=λds P=>∃(bs:List Bool) (m:Int) (n:Nat) (v:Wk),ds=[.str (Xbv bs),.int m,.int n]/\n<=5000/\Fol (Wk.turn ⟨n,0,[],[⟨0,0,m,1-2^n,2^n-1⟩],[]⟩) bs v/\P (.ob none "Walk" Xa5 v.ts)
abbrev Xha:Stmt:=Xdh (top 13) 5
theorem Xji:FnScope ["self","bits","bit"] ["self","bits"] (Xaf Xha):=by walk_at "S"
abbrev Xic:Stmt:=Xdh (top 13) 4
theorem Xg3:FnScope ["self","found","part"] ["self"] (Xaf Xic):=by walk_at "S"
abbrev Xlh:Stmt:=top 15
theorem Xnj:FnScope ["bits","many","planes","walk"] ["bits","many","planes"] (Xaf Xlh):=by walk_at "S"
theorem Xo7 {f:Addr}{fd:FuncData}(Df:MetAt K "Walk" "follow" "Walk.follow" Xha f fd)(B:BltV mg)(KV:KitV K)(CV_Walk:ClsV K "Walk" Xa5)(Xba:CalM P w K mg base "Walk" "is_whole" 1 ["self"] (spV K 1 Xcq))(Xen:CalM P w K mg base "Walk" "take" 4 ["self","told"] (spM K 2 "Walk" Xa5 Xh7)):
  CalM P w K mg base "Walk" "follow" 5 ["self","bits"] (spM K 2 "Walk" Xa5 Xf5):=by
 refine CalM.of Df Xji (by walk_at "b") rfl (λc A o s H E hr=>⟨_,_,(Xal (Xcv PassesOwn.never rfl (Ykg (pv 1)) (Xau (i:=2) Xji.nd rfl (Or.inl rfl)) (Xah (Xcm (Xcr (Xc0 Xba (hr.mono (by decide)) (pv 0))) (Xal Ydl) Xbg)
   (Xal (Xbl (Xfl Xen (hr.mono (by decide)) (pv 0) (Xaa (Xew Xln (pv 2) Xij (Xbo _)) Xad))))))),
  (Xcu (Yj0 Xac) Xav (Xam (Xcl (Xmk (Xb4 (Xdt CV_Walk (by decide +kernel) Xac Xan))) Yc4 Xbf)
   (Xfi CV_Walk (by decide +kernel) (Xab (Xaq Xlq Xac (Xap Xif)) Xak)))),?_⟩)
 rintro a ts ds Pr ⟨w,v,bs,rfl,rfl,hF,h⟩
 fin2
 rw[Xgh,map_map]
 refine⟨λi M=>∃(w':Wk) (o:Option Sl),Fol w' (bs.drop i) v/\M=[some (.own (.ob (some a) "Walk" Xa5 w'.ts)),vD (.str (Xbv bs)),o],⟨w,none,hF,rfl⟩,?_,?_⟩
 .rintro i d M hd ⟨w',o,hF',rfl⟩
  obtain⟨b,hb,rfl⟩:=Xs6 hd
  have hi:=(List.getElem?_eq_some_iff.mp hb).1
  have hdr:bs.drop i=b::bs.drop (i+1):=by
   rw[List.drop_eq_getElem_cons hi]
   rw[getElem?_eq_getElem hi]at hb
   rw[Option.some.inj hb]
  rw[hdr]at hF'
  simp only[gN,Function.comp,set_cons_succ,set_cons_zero]
  gn_on
  refine⟨w',by rw[OV.vals_eq],?_⟩
  fin2
  cases hF' with
  |whole hl=>
   rw[if_pos hl]
   exact h
  | @step _ _ ah p _ _ h0 h5 hf e h1 t=>
   rw[if_neg (by omega)]
   gp_on
   fin2
   refine⟨w',ah,p,b,rfl,hf,by rw[Yeo],e,h0,h5,h1,?_⟩
   exact⟨_,_,t,rfl⟩
 .rintro M ⟨w',o,hF',rfl⟩
  rw[length_map,List.drop_length]at hF'
  cases hF'
  exact⟨_,rfl,h⟩
theorem Xq1 {f:Addr}{fd:FuncData}(Df:MetAt K "Walk" "spans" "Walk.spans" Xic f fd)(B:BltV mg)(KV:KitV K)(CV_Walk:ClsV K "Walk" Xa5)(Xio:∃t,mg "SPAN"=some (.int 3 t))(Xgo:∃t,mg "END"=some (.int 2 t))(Xcf:∃t,mg "START"=some (.int 1 t)):
  CalM P w K mg base "Walk" "spans" 1 ["self"] (spV K 1 Xgx):=by
 refine CalP.of Df Xg3 (by walk_at "b") rfl (λc A o s H E hr=>⟨_,_,(Xah (Xa9 (i:=1) Xg3.nd rfl (Or.inl rfl) (Xb8 Xad))
   (Xah (Xcv PassesOwn.never rfl (Xdw (Xaw Yas (Xb2 (pv 0) rfl) (Xpp rfl B.list rfl B.reversed (Xaa (Xb2 (pv 0) rfl) Xad)))) (Xau (i:=2) Xg3.nd rfl (Or.inl rfl)) (Xal (Xbl (Xik plainAttrs_list slot_list_extend type_list_extend Xpv (pv 1) (Xaa (Xaw Yfr (Xb8 (Xaa (Xax Xas (pv 2) (Xao (by rfl) Xio) (λ_ _=>rfl)) Xad)) (Xaw Xdl (Xax Xas (pv 2) (Xao (by rfl) Xgo) (λ_ _=>rfl)) (Xax Xas (pv 2) (Xao (by rfl) Xcf) (λ_ _=>rfl)))) Xad)))))
   (Xal (Xa1 (pv 1))))),
  (Xam (Xa8 (Xc4 Xb7))
   (Xam (Xcu (Xed (Xb4 (Xzu (Xc9 (j:=3) CV_Walk (by rfl) Xac) (Xap (Xb4 (Xpl (Xai (Xc9 (j:=4) CV_Walk (by rfl) Xac) Xan))))))) Xav (Yfa (Xb4 (Xzt (Xc4 (Xby (Xbk (Xbj Xar Xag Xae)) Xb7)) (Xap (Xaq Xb5 (Xbe (OpF.b Xar) Xac (Xap Xae)) (Xbe (OpF.b Xar) Xac (Xap Xae))))))))
   Xfh)),?_⟩)
 rintro ds Pr ⟨w,rfl,h1,h2,h3,h4,h⟩
 unfold Wk.ts
 gn_on
 gp_on
 gn_on
 rw[Xqu,Xqu]
 have vf:∀l:List D,List.map OV.val (List.map OV.fz l)=l:=λl=>by
  rw[map_map]
  exact map_id l
 simp only[vf]
 rw[<- map_reverse,<- map_append]
 refine⟨Xwj _,by omega,Xwj _,Xwj _,by simp;omega,?_⟩
 have h4':∀p∈w.wk++w.ah.reverse,0<=p.e-p.s/\p.e-p.s<=100000:=λp hp=>h4 p (by simpa using hp)
 unfold Xct at h h3
 generalize w.wk++w.ah.reverse=ps at h h3 h4'
 refine⟨λi M=>∃(o:Option Sl),M=[some (Sl.own (OV.fz (D.obj (Str.ofString "Walk") Xa5 [D.int w.pl,D.int w.us,D.lst (List.map D.int w.re),D.lst (List.map Pa.d w.wk),D.lst (List.map Pa.d w.ah)]))),some (Sl.own (OV.nl (((ps.take i).flatMap λp=>List.replicate (p.e-p.s).toNat p.sp).map .fz))),o],⟨none,rfl⟩,?_,?_⟩
 .rintro i d M hd ⟨o,rfl⟩
  obtain⟨p,hp,rfl⟩:=Xs6 hd
  have hi:=(List.getElem?_eq_some_iff.mp hp).1
  rw[Xpq]
  simp only[gN,set_cons_succ,set_cons_zero]
  fin2
  have hb:=h4' p (mem_of_getElem? hp)
  have hle:((ps.take i).flatMap λp=>List.replicate (p.e-p.s).toNat p.sp).length<=900000:=by
   refine le_trans ?_ h3
   rw[<- take_append_drop i ps,List.flatMap_append,length_append]
   simp
  refine⟨⟨hb.1,by omega⟩,by rw[length_replicate];(clear h1 h2;omega),some (Sl.own (OV.fz (D.tup [D.int p.a,D.int p.s,D.int p.e,D.tup [D.int p.lo,D.int p.hi]]))),?_⟩
  have ht:ps.take (i+1)=ps.take i++[p]:=by rw[take_add_one,hp];rfl
  rw[ht,List.flatMap_append,map_append,map_replicate]
  simp only[flatMap_cons,List.flatMap_nil,append_nil,map_replicate]
  rfl
 .rintro M ⟨o,rfl⟩
  gp_on
  fin2
  rw[take_length]
  exact h
theorem Xup {f:Addr}{fd:FuncData}(Df:DefAt K mg "followed" Xlh f fd)(B:BltV mg)(KV:KitV K)(CV_Walk:ClsV K "Walk" Xa5)(Xck:CalK P w K mg base "Walk" 2 ["self","many","planes"] (spM K 3 "Walk" Xa5 Xev))(Xc3:CalM P w K mg base "Walk" "follow" 5 ["self","bits"] (spM K 2 "Walk" Xa5 Xf5)):
  Cal P w K mg base "followed" 6 ["bits","many","planes"] (spV K 3 Xjn):=by
 refine CalV.of Df Xnj (by walk_at "b") rfl (λc A o s H E hr=>⟨_,_,(Xah (Xa9 (i:=3) Xnj.nd rfl (Or.inl rfl) (Xuk Xck (hr.mono (by decide)) (by rfl) (Xaa (pv 1) (Xaa (pv 2) Xad))))
   (Xah (Xbl (Xfl Xc3 (hr.mono (by decide)) (pv 3) (Xaa (pv 0) Xad)))
   (Xal (Xa1 (pv 3))))),
  (Xam (Xa8 (Xue CV_Walk (Xab Xag (Xab Xag Xak))))
   (Xam (Xfi CV_Walk (by decide +kernel) (Xab Xag Xak))
   Xfh)),?_⟩)
 rintro ds Pr ⟨bs,m,n,v,rfl,hn,hF,h⟩
 gn_on
 refine⟨m,n,rfl,rfl,hn,?_⟩
 gp_on
 gn_on
 refine⟨_,v,bs,rfl,rfl,hF,?_⟩
 gp_on
 fin2
 exact h
theorem Xsi {w:Wk}:w.rowEnd.us=w.us/\w.rowEnd.re.length<=w.re.length+1/\w.rowEnd.pl<=w.pl/\(w.rowEnd.re.length:Int)+w.rowEnd.pl<=w.re.length+w.pl:=by
 unfold Wk.rowEnd
 split
 .unfold Wk.turn
  split
  .refine ⟨rfl,by simp,by show w.pl-1<=w.pl;omega,?_⟩
   show (((w.re++[w.us]).length:Nat):Int)+(w.pl-1)<=_
   rw[length_append,length_singleton];omega
  .refine ⟨rfl,by simp,by show w.pl-1<=w.pl;omega,?_⟩
   show (((w.re++[w.us]).length:Nat):Int)+(w.pl-1)<=_
   rw[length_append,length_singleton];omega
 .exact ⟨rfl,by omega,Int.le_refl _,Int.le_refl _⟩
theorem Xv0 {m:Nat}{w:Wk}(S:Shp m w)(hm:m<400000)(hr:w.re.length<900000):w.fits:=by
 have:=Xf0 S.sh.ch
 rw[length_append,length_reverse]at this
 exact⟨hr,by omega,by omega⟩
theorem Yco {xs:List Int}{m:Nat}(hx:xs.length=m)(hm0:0<m)(hm:m<400000):∀(N:Nat) (w:Wk),mu m w<=N->Shp m w->Xd4 xs w->w.pl<=5000->(w.re.length:Int)+w.pl<800000->
  ∃bs v,Tell xs w bs/\Fol w bs v/\v.pl<0/\Shp m v/\Xd4 xs v/\bs.length<=mu m w/\v.us=w.us+bs.length:=by
 intro N
 induction N with
 |zero=>
  intro w hN S C h5 hr
  by_cases hp:w.pl<0
  .exact ⟨[],w,.done hp,.nil,hp,S,C,zero_le _,by simp⟩
  .exfalso
   obtain⟨ah,p,e⟩:∃ah p,w.ah=ah++[p]:=⟨_,_,(List.dropLast_concat_getLast (S.ne (by omega))).symm⟩
   have:=Xms (b:=true) S.sh e
   unfold mu at hN
   rw[if_neg hp]at hN
   omega
 |succ N ih=>
  intro w hN S C h5 hr
  by_cases hp:w.pl<0
  .exact ⟨[],w,.done hp,.nil,hp,S,C,zero_le _,by simp⟩
  .obtain ⟨k,hk⟩:∃k:Nat,w.pl=k:=⟨w.pl.toNat,by omega⟩
   have ek:w.pl.toNat=k:=by omega
   obtain⟨ah,p,e⟩:∃ah p,w.ah=ah++[p]:=⟨_,_,(List.dropLast_concat_getLast (S.ne (by omega))).symm⟩
   have S0:Sh0 m k w:=ek▸S.sh
   have hA:=S0.ah p (by rw[e];simp)
   have hmem:=Xit (p:=p) S0.ch (by rw[e];simp)
   have hB:=S0.sib ah p e
   have S1:=Xlb (b:=Xk8 xs (k:Int) p) S0 hk e
   obtain⟨q1,q2,q3⟩:=Xt4 (w:=w) (ah:=ah) (p:=p) (b:=Xk8 xs (k:Int) p)
   have hk1:(w.step ah p (Xk8 xs (k:Int) p)).pl=k:=by rw[q1];exact hk
   have S2:=Xig (by omega) S1 hk1
   have C1:Yes xs k (w.step ah p (Xk8 xs (k:Int) p)):=(Xvt hk e hA hB (by rw[hx];exact hmem.2.2)).mpr ⟨by unfold Xd4 at C;rw[ek]at C;exact C,rfl⟩
   have C2:Xd4 xs (w.step ah p (Xk8 xs (k:Int) p)).rowEnd:=(Xpn (by rw[hk1];omega) (Xp8 S1)).mpr (by unfold Xd4;rw[hk1,toNat_natCast];exact C1)
   obtain⟨r1,r2,r3,r4⟩:=Xsi (w:=w.step ah p (Xk8 xs (k:Int) p))
   have hmu:=Xsj S1 hk1
   have hphi:=Xms (b:=Xk8 xs (k:Int) p) S0 e
   have hw:mu m w=3*m*k+Xj4 w.ah:=by unfold mu;rw[if_neg hp,ek]
   rw[q1]at r3
   rw[q1,q3]at r4
   obtain⟨bs,v,t1,t2,t3,t4,t5,t6,t7⟩:=ih _ (by omega) S2 C2 (by (clear hx hm0 hm hN hmem r2 hmu hw;omega)) (by (clear hx hm0 hm hN hmem hmu hw;omega))
   have hf:=Xv0 S hm (by (clear hx hm0 hm hN hmem hmu hw t3 t6 t7;omega))
   have hone:p.a=1->Xk8 xs (k:Int) p=false->ah≠[]:=λz _=>by
    obtain⟨r,q,er,_⟩:=hB.sib z
    rw[er];simp
   refine⟨Xk8 xs (k:Int) p::bs,v,?_,?_,t3,t4,t5,?_,?_⟩
   .have:=Tell.step (xs:=xs) (w:=w) (ah:=ah) (p:=p) (bs:=bs) (by (clear hx hm0 hm hN hmem hmu hw t3 t6 t7;omega)) h5 hf e ⟨hmem.1,hmem.2.1,by rw[hx];exact hmem.2.2⟩ (by rw[hk];exact hone) (by rw[hk];exact t1)
    rw[hk]at this
    exact this
   .exact Fol.step (by (clear hx hm0 hm hN hmem hmu hw t3 t6 t7;omega)) h5 hf e hone t2
   .rw [length_cons];(clear hN t3 t7;omega)
   .rw [t7,r1,q2,length_cons];omega
def dot (x:Int):D:=.tup [.int x,.int x]
theorem Ydt {xs:List Int}{p:Pa}(hs:ShW 0 p)(hc:CW xs 0 p)(he:p.e<=(xs.length:Int)):List.replicate (p.e-p.s).toNat p.sp=((xs.drop p.s.toNat).take (p.e-p.s).toNat).map dot:=by
 obtain⟨h0,h1,h2⟩:=hs
 have hl:((xs.drop p.s.toNat).take (p.e-p.s).toNat).length=(p.e-p.s).toNat:=by
  rw[length_take,length_drop];omega
 have key:∀x∈(xs.drop p.s.toNat).take (p.e-p.s).toNat,p.sp=dot x:=by
  intro x hx
  obtain⟨i,hi⟩:=mem_iff_getElem?.mp hx
  have hil:=(List.getElem?_eq_some_iff.mp hi).1
  rw[hl]at hil
  rw[List.getElem?_take_of_lt hil,getElem?_drop]at hi
  have hg:xs.getD (p.s.toNat+i) 0=x:=by rw[getD_eq_getElem?_getD,hi];rfl
  unfold Pa.sp dot
  rcases h2 with⟨a3,ae,⟨a1,_⟩⟩ | ⟨a0,a1,a2⟩
  .obtain ⟨c1,c2⟩:=hc.1 a3
   have hi0:i=0:=by (clear he hl hg c1 c2;omega)
   subst hi0
   rw[add_zero]at hg
   rw[hg]at c1 c2
   have:p.hi-p.lo=0:=by simpa using a1
   rw[show p.lo=x by (clear he hl hg;omega),show p.hi=x by (clear he hl hg;omega)]
  .have:=hc.2 a0 (p.s.toNat+i) (by (clear he hl hg;omega)) (by (clear he hl hg;omega))
   rw[hg]at this
   have hx0:x=0:=by
    have:x.natAbs<1:=by simpa using this
    omega
   rw[a1,a2,hx0]
   rfl
 refine ext_getElem? λi=>?_
 by_cases hi:i<(p.e-p.s).toNat
 .have hlt:i<((xs.drop p.s.toNat).take (p.e-p.s).toNat).length:=by rw[hl];exact hi
  rw[List.getElem?_replicate,if_pos hi,getElem?_map,getElem?_eq_getElem hlt,key _ (getElem_mem hlt)]
  rfl
 .rw [getElem?_eq_none (by rw[length_replicate];omega),getElem?_eq_none (by rw[length_map];omega)]
theorem Xtq {xs:List Int}:∀{ps:List Pa} {a b:Int},Xdr a ps b->0<=a->b<=(xs.length:Int)->(∀p∈ps,ShW 0 p/\CW xs 0 p)->(ps.flatMap λp=>List.replicate (p.e-p.s).toNat p.sp)=((xs.drop a.toNat).take (b-a).toNat).map dot
 | [],a,b,h,_,_,_=>by cases (show a=b from h);simp
 |p::ps,a,b,⟨h1,h2,h3⟩,h0,hb,hk=>by
  have hle:=Xf0 h3
  have hp:=hk p (by simp)
  rw[flatMap_cons,Xtq h3 (by omega) hb (λq hq=>hk q (by simp[hq])),Ydt hp.1 hp.2 (by omega),<- map_append]
  subst h1
  congr 1
  have e1:(b-p.s).toNat=(p.e-p.s).toNat+(b-p.e).toNat:=by omega
  have e2:p.e.toNat=p.s.toNat+(p.e-p.s).toNat:=by (clear hb hle e1;omega)
  rw[e1,List.take_add,List.drop_drop,<- e2]
theorem Xnc {xs:List Int}{m:Nat}{v:Wk}(hx:xs.length=m)(S:Shp m v)(C:Xd4 xs v)(h:v.pl<0):Xct v=xs.map dot:=by
 obtain⟨h1,h2⟩:=S.wh h
 have e0:v.pl.toNat=0:=by omega
 have S0:=S.sh
 rw[e0]at S0
 unfold Xd4 at C
 rw[e0]at C
 have hc:=S0.ch
 rw[h2]at hc
 unfold Xct
 rw[h2]
 have:=Xtq (xs:=xs) hc (by omega) (by omega) (λp hp=>by
  have hp:p∈v.wk:=by simpa using hp
  exact⟨S0.wk p hp,C.1 p hp⟩)
 rw[this]
 congr 1
 rw[show ((m:Int)-0).toNat=xs.length by omega]
 simp
theorem Xtp:∀{ps:List Pa} {a b:Int},Xdr a ps b->(ps.flatMap λp=>List.replicate (p.e-p.s).toNat p.sp).length=(b-a).toNat
 | [],a,b,h=>by cases (show a=b from h);simp
 |p::ps,a,b,⟨h1,h2,h3⟩=>by
  have hle:=Xf0 h3
  rw[flatMap_cons,length_append,Xtp h3,length_replicate]
  omega
theorem Xr3 {m:Nat}{w:Wk}(S:Shp m w)(hm:m<=100000):w.wk.length<400000/\w.ah.length<400000/\(Xct w).length=m/\∀p∈w.wk++w.ah,0<=p.e-p.s/\p.e-p.s<=100000:=by
 have h1:=Xf0 S.sh.ch
 rw[length_append,length_reverse]at h1
 refine⟨by omega,by omega,by unfold Xct;rw[Xtp S.sh.ch];omega,λp hp=>?_⟩
 have:=Xit (p:=p) S.sh.ch (by simpa using hp)
 omega
theorem Xnb (m n:Nat):(Wk.turn ⟨n,0,[],[⟨0,0,m,1-2^n,2^n-1⟩],[]⟩).pl=n-1/\(Wk.turn ⟨n,0,[],[⟨0,0,m,1-2^n,2^n-1⟩],[]⟩).re=[]/\(Wk.turn ⟨n,0,[],[⟨0,0,m,1-2^n,2^n-1⟩],[]⟩).us=0/\mu m (Wk.turn ⟨n,0,[],[⟨0,0,m,1-2^n,2^n-1⟩],[]⟩)<=3*m*n:=by
 unfold Wk.turn
 split
 .rename_i c
  refine⟨rfl,rfl,rfl,?_⟩
  have c:(n:Int)-1>=0:=c
  obtain⟨k,rfl⟩:∃k,n=k+1:=⟨n-1,by omega⟩
  unfold mu
  rw[if_neg (by show ¬ ((k+1:Nat):Int)-1<0;omega)]
  show 3*m*(((k+1:Nat):Int)-1).toNat+Xj4 [_]<=_
  rw[Xkn,show (((k+1:Nat):Int)-1).toNat=k by omega]
  unfold phi
  rw[if_neg (by simp)]
  show 3*m*k+(3*((m:Int)-0).toNat-1)<=3*m*(k+1)
  rw[Nat.mul_add]
  omega
 .rename_i c
  have c:¬ (n:Int)-1>=0:=c
  refine⟨rfl,rfl,rfl,?_⟩
  unfold mu
  rw[if_pos (by show (n:Int)-1<0;omega)]
  exact zero_le _
theorem Ykx {m:Nat}{w:Wk}(S:Shp m w)(h:0<=w.pl):1<=mu m w:=by
 obtain⟨ah,p,e⟩:∃ah p,w.ah=ah++[p]:=⟨_,_,(List.dropLast_concat_getLast (S.ne h)).symm⟩
 have:=Xms (b:=true) S.sh e
 unfold mu
 rw[if_neg (by omega)]
 omega
theorem Xtl {w v u:Wk}{as bs:List Bool}(h:Fol w as v)(h2:Fol v bs u):Fol w (as++bs) u:=by
 induction h with
 |nil=>exact h2
 |whole h=>
  cases h2 with
  |nil=>exact .whole h
  |whole _=>exact .whole h
  |step h0=>omega
 |step h h5 hf e h1 t ih=>exact .step h h5 hf e h1 (ih h2)
theorem Xoj {m:Nat}(hm0:0<m)(hm:m<400000):∀(bs:List Bool) (w:Wk),Shp m w->w.pl<=5000->(w.re.length:Int)+w.pl<800000->
  ∃(v:Wk) (u:Nat),Fol w bs v/\Shp m v/\u<=bs.length/\v.us=w.us+u/\mu m v+u<=mu m w/\(0<=v.pl->u=bs.length)/\(0<=w.pl->v.pl<0->1<=u)/\v.pl<=w.pl/\(v.re.length:Int)+v.pl<=w.re.length+w.pl/\
   ∀xs:List Int,xs.length=m->Xd4 xs v->Xd4 xs w/\∀ts,Tell xs v ts->Tell xs w (bs.take u++ts)
 | [],w,S,h5,hr=>⟨w,0,.nil,S,Nat.le_refl _,by simp,by omega,(λ_=>rfl),(λa b=>by omega),Int.le_refl _,Int.le_refl _,λxs hx C=>⟨C,λts t=>t⟩⟩
 |b :: bs,w,S,h5,hr=>by
  by_cases hp:w.pl<0
  .exact ⟨w,0,.whole hp,S,zero_le _,by simp,by omega,(λz=>by omega),(λa _=>by omega),Int.le_refl _,Int.le_refl _,λxs hx C=>⟨C,λts t=>t⟩⟩
  .obtain ⟨k,hk⟩:∃k:Nat,w.pl=k:=⟨w.pl.toNat,by omega⟩
   have ek:w.pl.toNat=k:=by omega
   obtain⟨ah,p,e⟩:∃ah p,w.ah=ah++[p]:=⟨_,_,(List.dropLast_concat_getLast (S.ne (by omega))).symm⟩
   have S0:Sh0 m k w:=ek▸S.sh
   have hA:=S0.ah p (by rw[e];simp)
   have hmem:=Xit (p:=p) S0.ch (by rw[e];simp)
   have hB:=S0.sib ah p e
   have S1:=Xlb (b:=b) S0 hk e
   obtain⟨q1,q2,q3⟩:=Xt4 (w:=w) (ah:=ah) (p:=p) (b:=b)
   have hk1:(w.step ah p b).pl=k:=by rw[q1];exact hk
   have S2:=Xig (by omega) S1 hk1
   obtain⟨r1,r2,r3,r4⟩:=Xsi (w:=w.step ah p b)
   have hmu:=Xsj S1 hk1
   have hphi:=Xms (b:=b) S0 e
   have hw:mu m w=3*m*k+Xj4 w.ah:=by unfold mu;rw[if_neg hp,ek]
   rw[q1]at r3
   rw[q1,q3]at r4
   obtain⟨v,u,t1,t2,t3,t4,t5,t6,t7,t8,t9,t10⟩:=Xoj hm0 hm bs _ S2 (by (clear hm0 hm hmem r2 hmu hw;omega)) (by omega)
   have hf:=Xv0 S hm (by omega)
   have hone:p.a=1->b=false->ah≠[]:=λz _=>by
    obtain⟨r,q,er,_⟩:=hB.sib z
    rw[er];simp
   refine⟨v,u+1,.step (by omega) h5 hf e hone t1,t2,by rw[length_cons];omega,by rw[t4,r1,q2];omega,by omega,(λz=>by rw[length_cons,t6 z]),(λ_ _=>by omega),by (clear hm0 hm hmem hmu hw t3 t4 t5;omega),by (clear hm0 hm hmem hmu hw t3 t4 t5;omega),λxs hx C=>?_⟩
   obtain⟨c1,c2⟩:=t10 xs hx C
   have C1:Yes xs k (w.step ah p b):=by
    have:=(Xpn (by rw[hk1];omega) (Xp8 S1)).mp c1
    unfold Xd4 at this
    rw[hk1,toNat_natCast]at this
    exact this
   obtain⟨C0,hb⟩:=(Xvt hk e hA hB (by rw[hx];exact hmem.2.2)).mp C1
   refine⟨by unfold Xd4;rw[ek];exact C0,λts t=>?_⟩
   have:=c2 ts t
   rw[List.take_succ_cons,cons_append]
   rw[hb]at this hone ⊢
   have T:=Tell.step (xs:=xs) (w:=w) (ah:=ah) (p:=p) (bs:=bs.take u++ts) (by omega) h5 hf e ⟨hmem.1,hmem.2.1,by rw[hx];exact hmem.2.2⟩ (by rw[hk];exact hone) (by rw[hk];exact this)
   rw[hk]at T
   exact T
theorem Xmy {α:Type}(f:Pa->α):∀{ps:List Pa} {a b:Int} {p:Pa} {i:Int},Xdr a ps b->p∈ps->p.s<=i->i<p.e->(ps.flatMap λp=>List.replicate (p.e-p.s).toNat (f p))[(i-a).toNat]?=some (f p)
 |q :: ps,a,b,p,i,⟨h1,h2,h3⟩,hp,hi1,hi2=>by
  rw[flatMap_cons]
  rcases mem_cons.mp hp with rfl |hp'
  .rw [getElem?_append_left (by rw[length_replicate];omega),List.getElem?_replicate,if_pos (by omega)]
  .have:=(Xit h3 hp').1
   rw[getElem?_append_right (by rw[length_replicate];omega),length_replicate]
   have:=Xmy f h3 hp' hi1 hi2
   rw[show (i-a).toNat-(q.e-q.s).toNat=(i-q.e).toNat by omega]
   exact this
theorem Xhk:∀{ps:List Pa} {a b i:Int},Xdr a ps b->a<=i->i<b->∃p∈ps,p.s<=i/\i<p.e
 | [],a,b,i,h,h1,h2=>by cases (show a=b from h);omega
 |q :: ps,a,b,i,⟨h1,h2,h3⟩,hi1,hi2=>by
  by_cases h:i<q.e
  .exact ⟨q,by simp,by omega,h⟩
  .obtain ⟨p,hp,h4⟩:=Xhk h3 (show q.e<=i by omega) hi2
   exact⟨p,by simp[hp],h4⟩
theorem part_at {m:Nat}{w:Wk}(S:Shp m w){i:Nat}(hi:i<m):∃p∈w.wk++w.ah,p.s<=i/\(i:Int)<p.e/\(Xct w)[i]?=some p.sp:=by
 obtain⟨p,hp,h1,h2⟩:=Xhk S.sh.ch (show (0:Int)<=i by omega) (by omega)
 refine⟨p,by simpa using hp,h1,h2,?_⟩
 have:=Xmy Pa.sp S.sh.ch hp h1 h2
 rw[show ((i:Int)-0).toNat=i by omega]at this
 exact this
theorem Yan {m:Nat}{w:Wk}(S:Shp m w){p:Pa}(hp:p∈w.wk++w.ah):p.lo<=p.hi:=by
 have q:∀k:Nat,(0:Int)<2^k:=Xqv
 have q1:=q w.pl.toNat
 have q2:=q (w.pl.toNat+1)
 rcases mem_append.mp hp with h |h
 .obtain ⟨s0,s1,s2⟩:=S.sh.wk p h
  rcases s2 with⟨_,_,a,_⟩ | ⟨_,l1,l2⟩<;>omega
 .obtain ⟨s0,s1,s2⟩:=S.sh.ah p h
  rcases s2 with⟨_,_,a,_⟩ | ⟨_,l1,l2⟩ | ⟨_,_,l1,l2⟩<;>omega
theorem Yek {m:Nat}{v:Wk}(S:Shp m v)(h:v.pl<0):∃xs:List Int,xs.length=m/\Xd4 xs v:=by
 obtain⟨h1,h2⟩:=S.wh h
 have e0:v.pl.toNat=0:=by omega
 have S0:=S.sh
 rw[e0]at S0
 have hc:=S0.ch
 rw[h2,List.reverse_nil,append_nil]at hc
 have at':∀p∈v.wk,∀i:Nat,p.s<=i->(i:Int)<p.e->(v.wk.flatMap λp=>List.replicate (p.e-p.s).toNat p.lo).getD i 0=p.lo:=λp hp i a b=>by
  have:=Xmy Pa.lo hc hp a b
  rw[show ((i:Int)-0).toNat=i by omega]at this
  rw[getD_eq_getElem?_getD,this]
  rfl
 refine⟨v.wk.flatMap λp=>List.replicate (p.e-p.s).toNat p.lo,?_,?_⟩
 .have:∀{ps:List Pa} {a b:Int},Xdr a ps b->(ps.flatMap λp=>List.replicate (p.e-p.s).toNat p.lo).length=(b-a).toNat:=by
   intro ps
   induction ps with
   |nil=>intro a b h;cases (show a=b from h);simp
   |cons p ps ih=>
    rintro a b ⟨h1,h2,h3⟩
    have hle:=Xf0 h3
    rw[flatMap_cons,length_append,ih h3,length_replicate]
    omega
  rw[this hc]
  omega
 .unfold Xd4 Yes CAs
  rw[e0,h2]
  refine⟨λp hp=>?_,(λp hp=>by cases hp),λr q p e=>by simp at e⟩
  obtain⟨s0,s1,s2⟩:=S0.wk p hp
  refine⟨λa=>?_,λa i i1 i2=>?_⟩
  .rw [at' p hp p.s.toNat (by omega) (by omega)]
   rcases s2 with⟨_,_,a,_⟩ | ⟨_,l1,l2⟩
   .have:p.hi-p.lo=0:=by simpa using a
    omega
   .omega
  .rw [at' p hp i i1 i2]
   rcases s2 with⟨a3,_⟩ | ⟨_,l1,l2⟩
   .omega
   .rw [l1]
    decide
theorem Xy5 {xs:List Int}{n:Nat}(h:Xd4 xs (Wk.turn ⟨n,0,[],[⟨0,0,xs.length,1-2^n,2^n-1⟩],[]⟩)):∀x∈xs,x.natAbs<2^n:=by
 have:=(Xp9 (w:=⟨n,0,[],[⟨0,0,xs.length,1-2^n,2^n-1⟩],[]⟩) (by show 0<=(n:Int);omega) rfl (λp hp=>by rw[mem_singleton.mp hp];exact .inl rfl)).mp h
 unfold Xd4 at this
 have:=(this.1 _ (mem_singleton.mpr rfl)).2 rfl
 intro x hx
 obtain⟨i,hi⟩:=mem_iff_getElem?.mp hx
 have hil:=(List.getElem?_eq_some_iff.mp hi).1
 have:=this i (by show (0:Int)<=i;omega) (by show (i:Int)<xs.length;omega)
 rw[getD_eq_getElem?_getD,hi]at this
 have h2:x.natAbs<2^(n:Int).toNat:=this
 rw[toNat_natCast]at h2
 exact h2
def Xd5 (w:Wk):List (Int×Int):=(w.wk++w.ah.reverse).flatMap λp=>List.replicate (p.e-p.s).toNat (p.lo,p.hi)
theorem Xnd {m:Nat}{w:Wk}(S:Shp m w){p:Pa}{i:Nat}(hp:p∈w.wk++w.ah)(h1:p.s<=i)(h2:(i:Int)<p.e):(Xd5 w)[i]?=some (p.lo,p.hi):=by
 have:=Xmy (λp=>(p.lo,p.hi)) S.sh.ch (by simpa using hp) h1 h2
 rw[show ((i:Int)-0).toNat=i by omega]at this
 exact this
theorem Xlc {m:Nat}{w:Wk}(S:Shp m w):(Xd5 w).length=m:=by
 have:∀{ps:List Pa} {a b:Int},Xdr a ps b->(ps.flatMap λp=>List.replicate (p.e-p.s).toNat (p.lo,p.hi)).length=(b-a).toNat:=by
  intro ps
  induction ps with
  |nil=>intro a b h;cases (show a=b from h);simp
  |cons p ps ih=>
   rintro a b ⟨h1,h2,h3⟩
   have hle:=Xf0 h3
   rw[flatMap_cons,length_append,ih h3,length_replicate]
   omega
 unfold Xd5
 rw[this S.sh.ch]
 omega
structure Kept (G:Pa->Prop) (b:Bool):Prop where
 fig:∀k p,p.a=3->ShA (k+1) p->G p->G (p.figured k b)
 sig:∀k p,p.a=2->ShA (k+1) p->G p->G (p.signed k b)
 w2:∀k q,(q.a=0∨q.a=1)->ShA (k+1) q->G q->G ⟨2,q.s,q.e,q.lo,q.hi⟩
 w0:∀k q,(q.a=0∨q.a=1)->ShA (k+1) q->G q->∀m,q.s<=m->m<=q.e->G ⟨0,m,q.e,q.lo,q.hi⟩/\G ⟨1,q.s,m,q.lo,q.hi⟩
 calm:b=false->∀k q,(q.a=0∨q.a=1)->ShA (k+1) q->G q->G ⟨0,q.s,q.e,1-2^k,2^k-1⟩
def Ycg (G:Pa->Prop)(w:Wk):Prop:=(∀p∈w.wk,G p)/\∀p∈w.ah,G p
theorem Xrt {G:Pa->Prop}{b:Bool}(K:Kept G b){k:Nat}{w:Wk}{q:Pa}(h:Ycg G w)(hq:G q)(ha:q.a=0∨q.a=1)(hs:ShA (k+1) q):Ycg G (w.wake q):=by
 unfold Wk.wake
 split
 .refine ⟨h.1,λp hp=>?_⟩
  have hp:p∈w.ah++[⟨2,q.s,q.e,q.lo,q.hi⟩]:=hp
  rcases mem_append.mp hp with z |z
  .exact h.2 p z
  .rw [mem_singleton.mp z];exact K.w2 k q ha hs hq
 .refine ⟨h.1,λp hp=>?_⟩
  have hp:p∈w.ah++[⟨0,(q.s+q.e) / 2,q.e,q.lo,q.hi⟩,⟨1,q.s,(q.s+q.e) / 2,q.lo,q.hi⟩]:=hp
  have hlt:=hs.2.1
  obtain⟨g1,g2⟩:=K.w0 k q ha hs hq ((q.s+q.e) / 2) (by omega) (by omega)
  rcases mem_append.mp hp with z |z
  .exact h.2 p z
  .rcases mem_cons.mp z with z |z
   .rw [z];exact g1
   .rw [mem_singleton.mp z];exact g2
theorem Xy4 {G:Pa->Prop}{b:Bool}(K:Kept G b){m:Int}{k:Nat}{w:Wk}{ah:List Pa}{p:Pa}(S:Sh0 m k w)(hk:w.pl=k)(e:w.ah=ah++[p])(h:Ycg G w):Ycg G (w.step ah p b):=by
 have ek:w.pl.toNat=k:=by omega
 have hp:G p:=h.2 p (by rw[e];simp)
 have hs:=S.ah p (by rw[e];simp)
 have hah:∀q∈ah,G q:=λq hq=>h.2 q (by rw[e];simp[hq])
 have hB:=S.sib ah p e
 unfold Wk.step
 split
 .rename_i a3
  refine⟨λq hq=>?_,hah⟩
  have hq:q∈w.wk++[p.figured w.pl.toNat b]:=hq
  rcases mem_append.mp hq with z |z
  .exact h.1 q z
  .rw [mem_singleton.mp z,ek];exact K.fig k p a3 hs hp
 .split
  .rename_i a2
   refine⟨λq hq=>?_,hah⟩
   have hq:q∈w.wk++[p.signed w.pl.toNat b]:=hq
   rcases mem_append.mp hq with z |z
   .exact h.1 q z
   .rw [mem_singleton.mp z,ek];exact K.sig k p a2 hs hp
  .rename_i a3 a2
   have ha:p.a=0∨p.a=1:=by
    rcases hs.2.2 with⟨z,_⟩ | ⟨z,_⟩ | ⟨z,_⟩
    .exact absurd z a3
    .exact z
    .exact absurd z a2
   split
   .exact Xrt K (k:=k) (w:={w with us:=w.us+1,ah:=ah}) ⟨h.1,hah⟩ hp ha hs
   .rename_i hb
    have hb:b=false:=by simpa using hb
    have hc:G ⟨0,p.s,p.e,1-2^w.pl.toNat,2^w.pl.toNat-1⟩:=by rw[ek];exact K.calm hb k p ha hs hp
    have hwk:∀q∈w.wk++[(⟨0,p.s,p.e,1-2^w.pl.toNat,2^w.pl.toNat-1⟩:Pa)],G q:=λq hq=>by
     rcases mem_append.mp hq with z |z
     .exact h.1 q z
     .rw [mem_singleton.mp z];exact hc
    unfold Wk.calm
    split
    .rename_i a1
     obtain⟨r,q,er,hq0,_⟩:=hB.sib a1
     have hqm:q∈ah:=by rw[er];simp
     have hlast:ah.getLastD p=q:=by rw[er];simp
     show Ycg G (Wk.wake {w with us:=w.us+1,wk:=w.wk++[_],ah:=ah.dropLast} (ah.getLastD p))
     rw[hlast]
     refine Xrt K (k:=k) ⟨hwk,λz hz=>hah z ?_⟩ (hah q hqm) (.inl hq0) (S.ah q (by rw[e];simp[hqm]))
     have hz:z∈ah.dropLast:=hz
     exact List.dropLast_subset ah hz
    .exact ⟨hwk,hah⟩
theorem Xuh {G:Pa->Prop}{w:Wk}(h:Ycg G w):Ycg G w.rowEnd:=by
 unfold Wk.rowEnd
 split
 .unfold Wk.turn
  split
  .refine ⟨(λp hp=>by cases hp),λp hp=>h.1 p ?_⟩
   have hp:p∈w.wk.reverse:=hp
   simpa using hp
  .exact ⟨h.1,h.2⟩
 .exact h
theorem Yeh {G:Pa->Prop}{m:Nat}(hm:0<m){w v:Wk}{bs:List Bool}(F:Fol w bs v):(∀b∈bs,Kept G b)->Shp m w->Ycg G w->Ycg G v:=by
 induction F with
 |nil=>exact λ_ _ h=>h
 |whole _=>exact λ_ _ h=>h
 | @step w v ah p b bs h h5 hf e h1 t ih=>
  intro K S hG
  obtain⟨k,hk⟩:∃k:Nat,w.pl=k:=⟨w.pl.toNat,by omega⟩
  have ek:w.pl.toNat=k:=by omega
  have S0:Sh0 m k w:=ek▸S.sh
  have S2:=Xig (m:=m) (by omega) (Xlb (b:=b) S0 hk e) (by rw[Xt4.1];exact hk)
  exact ih (λc hc=>K c (by simp[hc])) S2 (Xuh (Xy4 (K b (by simp)) S0 hk e hG))
def far (p:Pa):Int:=if p.lo > 0 then p.hi else p.lo
def near (p:Pa):Int:=if p.lo > 0 then p.lo else p.hi
theorem Xpj (p:Pa)(k:Nat)(b:Bool):(p.signed k b).s=p.s/\(p.signed k b).e=p.e/\(p.signed k b).a=3:=by
 unfold Pa.signed;split<;>exact⟨rfl,rfl,rfl⟩
theorem Xp4 (p:Pa)(k:Nat)(b:Bool):(p.figured k b).s=p.s/\(p.figured k b).e=p.e/\(p.figured k b).a=3:=by
 unfold Pa.figured;split<;>exact⟨rfl,rfl,rfl⟩
theorem kept_far (c:Nat->Int):Kept (λp=>∀i:Nat,p.s<=i->(i:Int)<p.e->far p=c i) true where
 fig := λk p a3 hs h i h1 h2=>by
  obtain⟨f1,f2,_⟩:=Xp4 p k true
  rw[f1]at h1;rw[f2]at h2
  rw[<- h i h1 h2]
  have hp:=Xqv k
  by_cases hl:p.lo > 0
  .have e:p.figured k true=⟨3,p.s,p.e,p.lo+2^k,p.hi⟩:=by
    unfold Pa.figured
    rw[if_pos (by simp[hl])]
   rw[e]
   unfold far
   rw[if_pos (by show p.lo+2^k > 0;omega),if_pos hl]
  .have e:p.figured k true=⟨3,p.s,p.e,p.lo,p.hi-2^k⟩:=by
    unfold Pa.figured
    rw[if_neg (by simp[hl])]
   rw[e]
   unfold far
   rw[if_neg (by exact hl),if_neg hl]
 sig := λk p a2 hs h i h1 h2=>by
  obtain⟨f1,f2,_⟩:=Xpj p k true
  rw[f1]at h1;rw[f2]at h2
  rw[<- h i h1 h2]
  have hp:=Xqv k
  rcases hs.2.2 with⟨z,_⟩ | ⟨z,_⟩ | ⟨_,_,l1,l2⟩
  .omega
  .omega
  .unfold far Pa.signed
   rw[if_pos rfl]
   show (if 1-2^k-2^k > (0:Int) then _ else (1-2^k-2^k:Int))=_
   have hs2:=Xpr k
   rw[if_neg (by omega),if_neg (by omega),l1]
   omega
 w2:=λk q _ _ h=>h
 w0:=λk q _ _ h m h1 h2=>⟨λi a b=>h i (by have a:m<=i:=a;omega) b,λi a b=>h i a (by have b:(i:Int)<m:=b;omega)⟩
 calm:=λz=>by cases z
theorem Yii (L U:Nat->Int)(b:Bool):Kept (λp=>∀i:Nat,p.s<=i->(i:Int)<p.e->L i<=p.lo/\p.hi<=U i) b where
 fig := λk p a3 hs h i h1 h2=>by
  obtain⟨f1,f2,f3⟩:=Xp4 p k b
  rw[f1]at h1;rw[f2]at h2
  obtain⟨g1,g2⟩:=h i h1 h2
  rcases hs.2.2 with⟨_,_,hk⟩ | ⟨z,_⟩ | ⟨z,_⟩
  .have:=(ShK.figured (b:=b) hk).2
   exact⟨by omega,by omega⟩
  .omega
  .omega
 sig := λk p a2 hs h i h1 h2=>by
  obtain⟨f1,f2,f3⟩:=Xpj p k b
  rw[f1]at h1;rw[f2]at h2
  obtain⟨g1,g2⟩:=h i h1 h2
  have hp:=Xqv k
  have hs2:=Xpr k
  rcases hs.2.2 with⟨z,_⟩ | ⟨z,_⟩ | ⟨_,_,l1,l2⟩
  .omega
  .omega
  .unfold Pa.signed
   cases b
   .rw [if_neg (by decide)]
    exact⟨by show L i<=2^k;omega,by show (2^k+2^k-1:Int)<=U i;omega⟩
   .rw [if_pos rfl]
    exact⟨by show L i<=1-2^k-2^k;omega,by show (-2^k:Int)<=U i;omega⟩
 w2:=λk q _ _ h=>h
 w0:=λk q _ _ h m h1 h2=>⟨λi a b=>h i (by have a:m<=i:=a;omega) b,λi a b=>h i a (by have b:(i:Int)<m:=b;omega)⟩
 calm:=λ_ k q ha hs h i h1 h2=>by
  obtain⟨g1,g2⟩:=h i h1 h2
  have hp:=Xqv k
  have hs2:=Xpr k
  rcases hs.2.2 with⟨z,_⟩ | ⟨_,l1,l2⟩ | ⟨z,_⟩
  .omega
  .exact ⟨by show L i<=1-2^k;omega,by show (2^k-1:Int)<=U i;omega⟩
  .omega
theorem Xok {w v v':Wk}{bs:List Bool}(h:Fol w bs v)(h2:Fol w bs v'):v=v':=by
 induction h with
 |nil=>cases h2;rfl
 |whole h=>
  cases h2 with
  |whole _=>rfl
  |step h0=>omega
 |step h h5 hf e h1 t ih=>
  cases h2 with
  |whole h0=>omega
  |step _ _ _ e' _ t'=>
   rw[e]at e'
   obtain⟨rfl,e2⟩:=append_inj' e' rfl
   cases e2
   exact ih t'
def known (x:Int)(k:Nat):Int×Int:=
 if (x.natAbs:Int) / 2^k*2^k=0 then (1-2^k,2^k-1) else if x<0 then (1-(x.natAbs:Int) / 2^k*2^k-2^k,0-(x.natAbs:Int) / 2^k*2^k) else ((x.natAbs:Int) / 2^k*2^k,(x.natAbs:Int) / 2^k*2^k+2^k-1)
theorem Ypk {m:Nat}(hm:0<m){a b:Wk}{bs:List Bool}(F:Fol a bs b)(Sa:Shp m a)(Sb:Shp m b){i:Nat}(hi:i<m):∃s t,(Xd5 a)[i]?=some s/\(Xd5 b)[i]?=some t/\s.1<=t.1/\t.1<=t.2/\t.2<=s.2:=by
 obtain⟨p,hp,p1,p2⟩:=Xhk Sa.sh.ch (show (0:Int)<=i by omega) (by omega)
 obtain⟨q,hq,q1,q2⟩:=Xhk Sb.sh.ch (show (0:Int)<=i by omega) (by omega)
 have hp:p∈a.wk++a.ah:=by simpa using hp
 have hq:q∈b.wk++b.ah:=by simpa using hq
 have e1:=Xnd Sa hp p1 p2
 have e2:=Xnd Sb hq q1 q2
 have G:Ycg (λr=>∀j:Nat,r.s<=j->(j:Int)<r.e->(λj=>((Xd5 a).getD j (0,0)).1) j<=r.lo/\r.hi<=(λj=>((Xd5 a).getD j (0,0)).2) j) a:=by
  have key:∀r∈a.wk++a.ah,∀j:Nat,r.s<=j->(j:Int)<r.e->(λj=>((Xd5 a).getD j (0,0)).1) j<=r.lo/\r.hi<=(λj=>((Xd5 a).getD j (0,0)).2) j:=λr hr j j1 j2=>by
   have:=Xnd Sa hr j1 j2
   dsimp only
   rw[getD_eq_getElem?_getD,this]
   exact⟨Int.le_refl _,Int.le_refl _⟩
  exact⟨λq hq=>key q (by simp[hq]),λq hq=>key q (by simp[hq])⟩
 have G2:=Yeh hm F (λc _=>Yii _ _ c) Sa G
 have hin:(λj=>((Xd5 a).getD j (0,0)).1) i<=q.lo/\q.hi<=(λj=>((Xd5 a).getD j (0,0)).2) i:=by
  rcases mem_append.mp hq with z |z
  .exact G2.1 q z i q1 q2
  .exact G2.2 q z i q1 q2
 dsimp only at hin
 rw[getD_eq_getElem?_getD,e1]at hin
 exact⟨_,_,e1,e2,hin.1,Yan Sb hq,hin.2⟩
theorem Xvf {m:Nat}(hm0:0<m)(hm:m<400000){w v:Wk}{bs:List Bool}(F:Fol w bs v)(S:Shp m w)(h5:w.pl<=5000)(hr:(w.re.length:Int)+w.pl<800000)(h0:w.us=0){c:Nat}(hc:c<=bs.length):
  ∃u,Fol w (bs.take c) u/\Shp m u/\Fol u (bs.drop c) v/\Shp m v/\u.us=min (c:Int) v.us/\decide (u.pl<0)=(decide (v.pl<0) && decide (v.us<=(c:Int)))/\u.pl<=w.pl/\(u.re.length:Int)+u.pl<=w.re.length+w.pl:=by
 obtain⟨u,k,a1,a2,a3,a4,a5,a6,a7,a8,a9,a10⟩:=Xoj hm0 hm (bs.take c) w S h5 hr
 obtain⟨v2,k2,b1,b2,b3,b4,b5,b6,b7,b8,b9,b10⟩:=Xoj hm0 hm (bs.drop c) u a2 (by omega) (by omega)
 have F2:=Xtl a1 b1
 rw[take_append_drop]at F2
 have e:=Xok F F2
 subst e
 rw[length_take,min_eq_left hc]at a3 a6
 have hk2:u.pl<0->k2=0:=λz=>by
  have:mu m u=0:=by unfold mu;rw[if_pos z]
  omega
 refine⟨u,a1,a2,b1,b2,?_,?_,a8,a9⟩
 .by_cases z:u.pl<0
  .have:=hk2 z;(clear hm0 hm hc a5 b3 b5;omega)
  .have:=a6 (by omega);(clear hm0 hm hc a5 b3 b5;omega)
 .rw [<- Bool.decide_and]
  refine decide_eq_decide.mpr ⟨λz=>?_,λz=>?_⟩
  .have:=hk2 z
   exact⟨by (clear hm0 hm hc a3 a4 a5 b3 b4 b5 b9 this;omega),by (clear hm0 hm hc a5 b3 b5;omega)⟩
  .by_cases y:u.pl<0
   .exact y
   .have:=a6 (by omega)
    have:=b7 (by omega) z.1
    clear hm0 hm hc a5 b3 b5;omega
theorem Yel {m:Nat}(hm0:0<m)(hm:m<400000){w u v:Wk}{bs:List Bool}{c d:Nat}(hcd:c<=d)(F:Fol w (bs.take c) u)(S:Shp m u)(h5:u.pl<=5000)(hr:(u.re.length:Int)+u.pl<800000)(F2:Fol w (bs.take d) v):Fol u ((bs.take d).drop c) v:=by
 obtain⟨v2,k2,b1,_⟩:=Xoj hm0 hm ((bs.take d).drop c) u S h5 hr
 have F3:=Xtl F b1
 have e:bs.take c++(bs.take d).drop c=bs.take d:=by
  have:=take_append_drop c (bs.take d)
  rw[take_take,min_eq_left hcd]at this
  exact this
 rw[e]at F3
 rw[Xok F2 F3]
 exact b1
abbrev Xjo:Stmt:=top 19
theorem Xr6:FnScope ["some"] ["some"] (Xaf Xjo):=by walk_at "S"
def Xl3:DSp:=λds P=>∃xs:List Int,ds=[.lst (xs.map .int)]/\0<xs.length/\xs.length<=1000000/\∀δ:Nat,(∃x∈xs,ibN x=δ)->(∀x∈xs,ibN x<=δ)->P (.fz (.int δ))
theorem Xst {f:Addr}{fd:FuncData}(Df:DefAt K mg "planes_of" Xjo f fd)(B:BltV mg)(KV:KitV K)(Xdn:Cal P w K mg base "heights_of" 1 ["some"] (spV K 1 Xgw)):
  Cal P w K mg base "planes_of" 2 ["some"] (spV K 1 Xl3):=by
 refine CalV.of Df Xr6 (by walk_at "b") rfl (λc A o s H E hr=>⟨_,_,(Xal (Xa1 (Xay (Xts rfl) (by rfl) B.max boot_max (Xaa (Xa0 Xdn (hr.mono (by decide)) (by rfl) (Xaa (pv 0) Xad)) Xad)))),
  (Xa4 (Xbk (Xb0 Yb9 (Xai (Xap (Xb4 (Xat (Xab Xag Xak)))) Xan)))),?_⟩)
 rintro ds Pr ⟨xs,rfl,x0,hx,k⟩
 fin2
 refine⟨xs,rfl,hx,?_⟩
 fin2
 refine⟨xs.map λx=>(ibN x:Int),by simp only[map_map,Function.comp_def,OV.val],by simpa using x0,λδ hM hA=>?_⟩
 obtain⟨x,hm,rfl⟩:=mem_map.mp hM
 refine k (ibN x) ⟨x,hm,rfl⟩ λy hy=>?_
 have:=hA (ibN y) (mem_map.mpr ⟨y,hy,rfl⟩)
 omega
def nbL (t m s:Int):Int:=if t-s<0 then t+s else t-s
def nbR (t m s:Int):Int:=if m<=t+s then t-s else t+s
abbrev Xia:Stmt:=top 53
theorem Xgz:FnScope ["at","many","stride","left","right"] ["at","many","stride"] (Xaf Xia):=by walk_at "S"
def Xe1:DSp:=λds P=>match ds with
 | [.int t,.int m,.int s]=>if t-s<0/\m<=t+s then P (.fz .non) else P (.fz (.tup [.int (nbL t m s),.int (nbR t m s)]))
 |_=>False
theorem Xqw {f:Addr}{fd:FuncData}(Df:DefAt K mg "neighbours" Xia f fd)(B:BltV mg)(KV:KitV K):
  Cal P w K mg base "neighbours" 1 ["at","many","stride"] (spV K 3 Xe1):=by
 refine CalV.of Df Xgz (by walk_at "b") rfl (λc A o s H E hr=>⟨_,_,(Xah (Xa9 (i:=3) Xgz.nd rfl (Or.inl rfl) (Xaw Xdl (pv 0) (pv 2)))
   (Xah (Xa9 (i:=4) Xgz.nd rfl (Or.inl rfl) (Xaw Xc5 (pv 0) (pv 2)))
   (Xah (Xcm (Yfm (Xbq Xn1 (pv 3) Xaj (Xbo _)) (Yab (Xbq Yht (pv 4) (pv 1) (Xbo _)))).pt (Xal (Xa1 Xwf)) Xbg)
   (Xah (Xcm (Xbq Xn1 (pv 3) Xaj (Xbo _)) (Xal (Xa1 (Xbd (Xaa (pv 4) (Xaa (pv 4) Xad))))) Xbg)
   (Xah (Xcm (Xbq Yht (pv 4) (pv 1) (Xbo _)) (Xal (Xa1 (Xbd (Xaa (pv 3) (Xaa (pv 3) Xad))))) Xbg)
   (Xal (Xa1 (Xbd (Xaa (pv 3) (Xaa (pv 4) Xad)))))))))),
  (Xam (Xa8 (Xbk (Xaq Xb5 Xac Xac)))
   (Xam (Xa8 (Xbk (Xaq Xb5 Xac Xac)))
   (Xam (Xcl (Ye5 (Xbp (Xaq Xf9 Xac (Xap Xae))) (Xbp (Xaq Xf9 Xac Xac))) (Xa4 (Xbk Xv3)) Xbf)
   (Xam (Xcl (Xbp (Xaq Xf9 Xac (Xap Xae))) (Xa4 (Xbk (Xbx (Xab Xag (Xab Xag Xak))))) Xbf)
   (Xam (Xcl (Xbp (Xaq Xf9 Xac Xac)) (Xa4 (Xbk (Xbx (Xab Xag (Xab Xag Xak))))) Xbf)
   (Xa4 (Xbk (Xbx (Xab Xag (Xab Xag Xak)))))))))),?_⟩)
 intro ds Pr h
 unfold Xe1 at h
 split at h
 .rename_i t m s'
  fin2
  unfold nbL nbR at h
  by_cases h1:t-s'<0<;>by_cases h2:m<=t+s'<;>simpa[h1,h2] using h
 .exact h.elim
theorem Xww (xs:List Int)(t p:Nat)(v:Int)(h:t<xs.length):(xs.set t v).getD p 0=if p=t then v else xs.getD p 0:=by
 rw[getD_eq_getElem?_getD,getD_eq_getElem?_getD,getElem?_set]
 by_cases e:p=t
 .subst e
  rw[if_pos rfl,if_pos rfl,if_pos h];rfl
 .rw [if_neg (λz=>e z.symm),if_neg e]
theorem Xwy {F:Nat->List Int->Int}(S:Nat->Prop)(n:Nat)(hF:∀t xs ys,xs.length=n->ys.length=n->S t->t<n->(∀p,p=t∨¬ S p->xs.getD p 0=ys.getD p 0)->F t xs=F t ys):
  ∀(ts:List Nat) (xs:List Int),xs.length=n->ts.Nodup->(∀t∈ts,S t/\t<n)->
   (ts.foldl (λxs t=>xs.set t (F t xs)) xs).length=n/\∀p,(ts.foldl (λxs t=>xs.set t (F t xs)) xs).getD p 0=if p∈ts then F p xs else xs.getD p 0
 | [],xs,hl,_,_=>⟨hl,λp=>by simp⟩
 |t :: ts,xs,hl,nd,hs=>by
  obtain⟨n1,n2⟩:=nodup_cons.mp nd
  obtain⟨st,lt⟩:=hs t mem_cons_self
  obtain⟨e1,e2⟩:=Xwy S n hF ts (xs.set t (F t xs)) (by rw[length_set];exact hl) n2 λu hu=>hs u (mem_cons_of_mem _ hu)
  refine⟨e1,λp=>?_⟩
  rw[foldl_cons,e2 p]
  by_cases hp:p∈ts
  .rw [if_pos hp,if_pos (mem_cons_of_mem _ hp)]
   obtain⟨sp,lp⟩:=hs p (mem_cons_of_mem _ hp)
   refine hF p _ _ (by rw[length_set];exact hl) hl sp lp λq hq=>?_
   rw[Xww _ _ _ _ (by omega),if_neg]
   rintro rfl
   rcases hq with rfl |hq
   .exact n1 hp
   .exact hq st
  .rw [if_neg hp,Xww _ _ _ _ (by omega)]
   by_cases e:p=t
   .subst e;rw[if_pos rfl,if_pos mem_cons_self]
   .rw [if_neg e,if_neg]
    intro z
    rcases mem_cons.mp z with z |z
    .exact e z
    .exact hp z
structure Lf where
 h:Int
 l:Int
 r:Int
 a:Int
 s:Int
structure Lf.Ok (f:Lf):Prop where
 h:f.h=0∨f.h=1
 l : -8<=f.l/\f.l<=8
 r : -8<=f.r/\f.r<=8
 a : -64<=f.a/\f.a<=64
 s:0<=f.s/\f.s<=8
def Xls (f:Lf)(x y:Int):Int:=(f.l*x+f.r*y+f.a) / 2^f.s.toNat
def Ygb (h n st:Int):Nat:=(if h*st<n then (n-h*st-1) / (2*st)+1 else 0).toNat
theorem Xw1 {h n st:Int}(hs:0<st)(i:Nat):i<Ygb h n st↔h*st+(i:Int)*(2*st)<n:=by
 unfold Ygb
 have h2:0<2*st:=by omega
 have h0:0<=(i:Int)*(2*st):=mul_nonneg (by omega) (by omega)
 split
 .rename_i hlt
  have e:=Int.le_ediv_iff_mul_le (a:=(i:Int)) (b:=n-h*st-1) h2
  have e0:0<=(n-h*st-1) / (2*st):=ediv_nonneg (by omega) (by omega)
  constructor
  .intro z
   have:=e.mp (by omega)
   omega
  .intro z
   have:=e.mpr (by omega)
   omega
 .simp only[Int.toNat_zero]
  omega
def Xd6 (h n st:Int):List Int:=if n<=st then [] else (List.range (Ygb h n st)).map λ(i:Nat)=>h*st+(i:Int)*(2*st)
theorem Xfk {h n st t:Int}(hs:0<st):t∈Xd6 h n st↔¬ n<=st/\t<n/\∃i:Nat,t=h*st+(i:Int)*(2*st):=by
 unfold Xd6
 split
 .rename_i hn
  constructor
  .intro z;cases z
  .intro z;exact absurd hn z.1
 .rename_i hn
  rw[mem_map]
  constructor
  .rintro ⟨i,hi,rfl⟩
   exact⟨hn,(Xw1 hs i).mp (mem_range.mp hi),i,rfl⟩
  .rintro ⟨_,h1,i,rfl⟩
   exact⟨i,mem_range.mpr ((Xw1 hs i).mpr h1),rfl⟩
theorem Xsp {h n st:Int}(hs:0<st):(Xd6 h n st).Nodup:=by
 unfold Xd6
 split
 .exact nodup_nil
 .refine List.Pairwise.map _ (λi j hij=>?_) List.nodup_range
  intro e
  have:(i:Int)*(2*st)=(j:Int)*(2*st):=by omega
  have:=Int.eq_of_mul_eq_mul_right (by omega) this
  omega
theorem Xq5 {h n st t:Int}(hs:0<st)(hh:h=0∨h=1)(ht:t∈Xd6 h n st):(0<=t/\t<n)/\(0<=nbL t n st/\nbL t n st<n)/\(0<=nbR t n st/\nbR t n st<n)/\¬ (t-st<0/\n<=t+st):=by
 obtain⟨h1,h2,i,rfl⟩:=(Xfk hs).mp ht
 have hi:0<=(i:Int)*(2*st):=mul_nonneg (by omega) (by omega)
 have hz:0<=h*st:=by rcases hh with rfl |rfl<;>omega
 have key:h*st+(i:Int)*(2*st)-st<0->h*st+(i:Int)*(2*st)=0:=by
  intro z
  rcases Nat.eq_zero_or_pos i with rfl |hp
  .rcases hh with rfl |rfl
   .simp
   .simp at z ⊢<;>omega
  .have:1*(2*st)<=(i:Int)*(2*st):=Int.mul_le_mul_of_nonneg_right (by omega) (by omega)
   omega
 generalize h*st+(i:Int)*(2*st)=t at *
 unfold nbL nbR
 refine⟨⟨by omega,h2⟩,?_,?_,λz=>?_⟩
 .split<;>rename_i z
  .have:=key z;omega
  .omega
 .split
  .by_cases z:t-st<0
   .have:=key z;omega
   .omega
  .omega
 .have:=key z.1;omega
theorem Xpu {h n st t u:Int}(hs:0<st)(ht:∃i:Nat,t=h*st+(i:Int)*(2*st))(hu:u=nbL t n st∨u=nbR t n st):¬ ∃j:Nat,u=h*st+(j:Int)*(2*st):=by
 rintro⟨j,hj⟩
 obtain⟨i,hi⟩:=ht
 have key:∀d:Int,d=1∨d = -1->¬ (t+d*st=h*st+(j:Int)*(2*st)):=by
  intro d hd e
  have e2:((j:Int)-i)*(2*st)=d*st:=by rw[Int.sub_mul];omega
  have e3:(((j:Int)-i)*2-d)*st=0:=by rw[Int.sub_mul,mul_assoc];omega
  rcases Int.mul_eq_zero.mp e3 with z |z
  .rcases hd with rfl |rfl<;>omega
  .omega
 have k1:=key 1 (.inl rfl)
 have k2:=key (-1) (.inr rfl)
 unfold nbL nbR at hu
 rcases hu with rfl |rfl
 .split at hj
  .exact k1 (by omega)
  .exact k2 (by omega)
 .split at hj
  .exact k2 (by omega)
  .exact k1 (by omega)
def Xhy (sg:Int)(f:Lf)(st:Int)(xs:List Int)(t:Int):Int:=
 xs.getD t.toNat 0+sg*Xls f (xs.getD (nbL t xs.length st).toNat 0) (xs.getD (nbR t xs.length st).toNat 0)
def Xm4 (sg:Int)(f:Lf)(st:Int)(xs:List Int)(t:Int):List Int:=xs.set t.toNat (Xhy sg f st xs t)
def Xhu (sg:Int)(f:Lf)(st:Int)(xs:List Int):List Int:=(Xd6 f.h xs.length st).foldl (Xm4 sg f st) xs
theorem Xtk (sg:Int)(f:Lf)(st:Int):∀(ts:List Int) (xs:List Int),(∀t∈ts,0<=t)->ts.foldl (Xm4 sg f st) xs=(ts.map Int.toNat).foldl (λxs t=>xs.set t (Xhy sg f st xs (t:Int))) xs
 | [],_,_=>rfl
 |t::ts,xs,h=>by
  rw[map_cons,foldl_cons,foldl_cons,Xtk sg f st ts _ λu hu=>h u (mem_cons_of_mem _ hu)]
  have:=h t mem_cons_self
  unfold Xm4
  rw[show ((t.toNat:Nat):Int)=t by omega]
theorem Xux {sg:Int}{f:Lf}{st:Int}{xs:List Int}(hs:0<st)(hh:f.h=0∨f.h=1)(k:Nat):
  (((Xd6 f.h xs.length st).take k).foldl (Xm4 sg f st) xs).length=xs.length/\
  ∀p:Nat,(((Xd6 f.h xs.length st).take k).foldl (Xm4 sg f st) xs).getD p 0=if (p:Int)∈(Xd6 f.h xs.length st).take k then Xhy sg f st xs p else xs.getD p 0:=by
 by_cases hn:(xs.length:Int)<=st
 .have e:Xd6 f.h xs.length st=[]:=if_pos hn
  rw[e]
  exact⟨by simp,λp=>by simp⟩
 have nn:∀t∈(Xd6 f.h xs.length st).take k,0<=t/\t<xs.length/\t∈Xd6 f.h xs.length st:=λt ht=>by
  have hm:=mem_of_mem_take ht
  have:=(Xq5 hs hh hm).1
  exact⟨this.1,this.2,hm⟩
 rw[Xtk sg f st _ xs λt ht=>(nn t ht).1]
 have nd:(((Xd6 f.h xs.length st).take k).map Int.toNat).Nodup:=by
  rw[List.Nodup,List.pairwise_map]
  refine List.Pairwise.imp_of_mem (R:=λa b=>a≠b) (λ{a b} ha hb hab e=>hab ?_) ((Xsp hs).sublist (List.take_sublist _ _))
  have:=(nn a ha).1
  have:=(nn b hb).1
  omega
 obtain⟨e1,e2⟩:=Xwy (F:=λt ys=>Xhy sg f st ys (t:Int)) (λp=>∃i:Nat,(p:Int)=f.h*st+(i:Int)*(2*st)) xs.length (λt ys zs hy hz ht hlt hp=>by
   unfold Xhy
   have hm:(t:Int)∈Xd6 f.h xs.length st:=(Xfk hs).mpr ⟨hn,by (clear hn;omega),ht⟩
   obtain⟨_,b1,b2,_⟩:=Xq5 hs hh hm
   rw[hy,hz]
   have a1:=hp (nbL t xs.length st).toNat (.inr λz=>Xpu hs ht (.inl rfl) (by rw[show (((nbL (t:Int) xs.length st).toNat:Nat):Int)=nbL t xs.length st by omega]at z;exact z))
   have a2:=hp (nbR t xs.length st).toNat (.inr λz=>Xpu hs ht (.inr rfl) (by rw[show (((nbR (t:Int) xs.length st).toNat:Nat):Int)=nbR t xs.length st by omega]at z;exact z))
   rw[a1,a2,hp _ (.inl (by omega))]) _ xs rfl nd (λt ht=>by
   obtain⟨u,hu,rfl⟩:=mem_map.mp ht
   obtain⟨h1,h2,h3⟩:=nn u hu
   obtain⟨_,_,i,hi⟩:=(Xfk hs).mp h3
   exact⟨⟨i,by omega⟩,by omega⟩)
 refine⟨e1,λp=>?_⟩
 rw[e2 p]
 have:p∈((Xd6 f.h xs.length st).take k).map Int.toNat↔(p:Int)∈(Xd6 f.h xs.length st).take k:=by
  constructor
  .intro z
   obtain⟨u,hu,e⟩:=mem_map.mp z
   have:=(nn u hu).1
   rw[show (p:Int)=u by (clear hs hn e1;omega)];exact hu
  .intro z
   exact mem_map.mpr ⟨_,z,by (clear hs hn e1;omega)⟩
 by_cases hp:(p:Int)∈(Xd6 f.h xs.length st).take k
 .rw [if_pos hp,if_pos (this.mpr hp)]
 .rw [if_neg hp,if_neg λz=>hp (this.mp z)]
theorem Xkv {sg:Int}{f:Lf}{st:Int}{xs:List Int}(hs:0<st)(hh:f.h=0∨f.h=1):
  (Xhu sg f st xs).length=xs.length/\∀p:Nat,(Xhu sg f st xs).getD p 0=if (p:Int)∈Xd6 f.h xs.length st then Xhy sg f st xs p else xs.getD p 0:=by
 have h:=Xux (sg:=sg) (xs:=xs) hs hh (Xd6 f.h xs.length st).length
 rw[take_length]at h
 exact h
theorem Yej {xs ys:List Int}(hl:xs.length=ys.length)(h:∀p:Nat,xs.getD p 0=ys.getD p 0):xs=ys:=by
 refine ext_getElem hl λi h1 h2=>?_
 have:=h i
 rw[getD_eq_getElem?_getD,getD_eq_getElem?_getD,getElem?_eq_getElem h1,getElem?_eq_getElem h2]at this
 exact this
theorem Xs9 {sg:Int}{f:Lf}{st:Int}{xs:List Int}(hs:0<st)(hh:f.h=0∨f.h=1):Xhu (-sg) f st (Xhu sg f st xs)=xs:=by
 obtain⟨l1,g1⟩:=Xkv (sg:=sg) (xs:=xs) hs hh
 obtain⟨l2,g2⟩:=Xkv (sg:=-sg) (xs:=Xhu sg f st xs) hs hh
 refine Yej (l2.trans l1) λp=>?_
 rw[g2 p,l1]
 by_cases hp:(p:Int)∈Xd6 f.h xs.length st
 .rw [if_pos hp]
  unfold Xhy
  obtain⟨b0,b1,b2,_⟩:=Xq5 hs hh hp
  obtain⟨_,_,i,hi⟩:=(Xfk hs).mp hp
  have o1:¬ nbL (p:Int) xs.length st∈Xd6 f.h xs.length st:=λz=>Xpu hs ⟨i,hi⟩ (.inl rfl) ((Xfk hs).mp z).2.2
  have o2:¬ nbR (p:Int) xs.length st∈Xd6 f.h xs.length st:=λz=>Xpu hs ⟨i,hi⟩ (.inr rfl) ((Xfk hs).mp z).2.2
  rw[l1,g1,g1,g1]
  rw[show (((p:Int).toNat:Nat):Int)=p by (clear l1 l2;omega),if_pos hp,show (((nbL (p:Int) xs.length st).toNat:Nat):Int)=nbL p xs.length st by (clear l1 l2 hi;omega),if_neg o1,show (((nbR (p:Int) xs.length st).toNat:Nat):Int)=nbR p xs.length st by (clear l1 l2 hi;omega),if_neg o2]
  unfold Xhy
  rw[neg_mul,show ((p:Int).toNat)=p by (clear l1 l2;omega)]
  omega
 .rw [if_neg hp,g1 p,if_neg hp]
def Xbs (fs:List Lf)(st:Int)(xs:List Int):List Int:=fs.foldl (λxs f=>Xhu 1 f st xs) xs
def Xcw (fs:List Lf)(st:Int)(xs:List Int):List Int:=fs.reverse.foldl (λxs f=>Xhu (-1) f st xs) xs
theorem Xsm {st:Int}(hs:0<st):∀{fs:List Lf} (xs:List Int),(∀f∈fs,f.h=0∨f.h=1)->(Xbs fs st xs).length=xs.length
 | [],_,_=>rfl
 |f::fs,xs,h=>by
  unfold Xbs
  rw[foldl_cons]
  exact (Xsm hs (Xhu 1 f st xs) λg hg=>h g (mem_cons_of_mem _ hg)).trans (Xkv hs (h f mem_cons_self)).1
theorem Xn9 {st:Int}(hs:0<st):∀{fs:List Lf} (xs:List Int),(∀f∈fs,f.h=0∨f.h=1)->Xcw fs st (Xbs fs st xs)=xs
 | [],_,_=>rfl
 |f::fs,xs,h=>by
  have ih:=Xn9 hs (Xhu 1 f st xs) λg hg=>h g (mem_cons_of_mem _ hg)
  unfold Xcw Xbs at ih ⊢
  rw[foldl_cons,reverse_cons,foldl_append,ih]
  exact Xs9 hs (h f mem_cons_self)
theorem Xns {st:Int}(hs:0<st):∀{fs:List Lf} (xs:List Int),(∀f∈fs,f.h=0∨f.h=1)->Xbs fs st (Xcw fs st xs)=xs
 | [],_,_=>rfl
 |f::fs,xs,h=>by
  unfold Xbs Xcw
  rw[foldl_cons,reverse_cons,foldl_append]
  have e:=Xs9 (sg:=-1) (f:=f) (st:=st) (xs:=fs.reverse.foldl (λxs f=>Xhu (-1) f st xs) xs) hs (h f mem_cons_self)
  rw[neg_neg]at e
  show fs.foldl _ (Xhu 1 f st (Xhu (-1) f st _))=xs
  rw[e]
  exact Xns hs xs λg hg=>h g (mem_cons_of_mem _ hg)
section GL
variable {α β:Type}
theorem Ybn (z:α)(xs:List α)(t p:Nat)(v:α)(h:t<xs.length):(xs.set t v).getD p z=if p=t then v else xs.getD p z:=by
 rw[getD_eq_getElem?_getD,getD_eq_getElem?_getD,getElem?_set]
 by_cases e:p=t
 .subst e
  rw[if_pos rfl,if_pos rfl,if_pos h];rfl
 .rw [if_neg (λz=>e z.symm),if_neg e]
theorem Ybu (z:α){xs ys:List α}(hl:xs.length=ys.length)(h:∀p:Nat,p<xs.length->xs.getD p z=ys.getD p z):xs=ys:=by
 refine ext_getElem hl λi h1 h2=>?_
 have:=h i h1
 rw[getD_eq_getElem?_getD,getD_eq_getElem?_getD,getElem?_eq_getElem h1,getElem?_eq_getElem h2]at this
 exact this
def Xk1 (z:α)(G:α->α->α->α)(st:Int)(xs:List α)(t:Int):α:=G (xs.getD t.toNat z) (xs.getD (nbL t xs.length st).toNat z) (xs.getD (nbR t xs.length st).toNat z)
def Xtf (z:α)(G:α->α->α->α)(st:Int)(xs:List α)(t:Int):List α:=xs.set t.toNat (Xk1 z G st xs t)
def Xk2 (z:α)(G:α->α->α->α)(h st:Int)(xs:List α):List α:=(Xd6 h xs.length st).foldl (Xtf z G st) xs
theorem Xte {z:α}{G:α->α->α->α}{st:Int}:∀(ts:List Int) (xs:List α),(ts.foldl (Xtf z G st) xs).length=xs.length
 | [],_=>rfl
 |t::ts,xs=>by
  rw[foldl_cons,Xte ts]
  exact length_set
theorem Ynf {z:α}{G:α->α->α->α}{h st:Int}{xs:List α}(hs:0<st)(hh:h=0∨h=1):∀(k:Nat),
  (((Xd6 h xs.length st).take k).foldl (Xtf z G st) xs).length=xs.length/\
  ∀p:Nat,(((Xd6 h xs.length st).take k).foldl (Xtf z G st) xs).getD p z=if (p:Int)∈(Xd6 h xs.length st).take k then Xk1 z G st xs p else xs.getD p z
 | 0=>⟨by simp,λp=>by simp⟩
 |k + 1 => by
  obtain⟨l1,g1⟩:=Ynf (z:=z) (G:=G) (xs:=xs) hs hh k
  by_cases hk:k<(Xd6 h xs.length st).length
  .rw [take_succ_eq_append_getElem hk,foldl_append]
   have htm:(Xd6 h xs.length st)[k]∈Xd6 h xs.length st:=getElem_mem hk
   generalize ht:(Xd6 h xs.length st)[k]=t at htm ⊢
   obtain⟨b0,b1,b2,_⟩:=Xq5 hs hh htm
   obtain⟨_,_,i,hi⟩:=(Xfk hs).mp htm
   have o1:¬ nbL t xs.length st∈(Xd6 h xs.length st).take k:=λz=>Xpu hs ⟨i,hi⟩ (.inl rfl) ((Xfk hs).mp (mem_of_mem_take z)).2.2
   have o2:¬ nbR t xs.length st∈(Xd6 h xs.length st).take k:=λz=>Xpu hs ⟨i,hi⟩ (.inr rfl) ((Xfk hs).mp (mem_of_mem_take z)).2.2
   have o0:¬ t∈(Xd6 h xs.length st).take k:=λz=>by
    obtain⟨q,hq,eq⟩:=List.mem_iff_getElem.mp z
    rw[length_take]at hq
    rw[List.getElem_take]at eq
    have hne:=List.pairwise_iff_getElem.mp (Xsp (h:=h) (n:=xs.length) hs) q k (by (clear l1 hi eq;omega)) hk (by (clear l1 hi eq;omega))
    exact hne (by rw[eq,ht])
   generalize ((Xd6 h xs.length st).take k).foldl (Xtf z G st) xs=wc at l1 g1
   have e0:Xk1 z G st wc t=Xk1 z G st xs t:=by
    unfold Xk1
    rw[l1,g1,g1,g1,show ((t.toNat:Nat):Int)=t by (clear ht l1;omega),if_neg o0,show (((nbL t xs.length st).toNat:Nat):Int)=nbL t xs.length st by (clear ht hi l1;omega),if_neg o1,show (((nbR t xs.length st).toNat:Nat):Int)=nbR t xs.length st by (clear ht hi l1;omega),if_neg o2]
   refine⟨by rw[foldl_cons,foldl_nil];show (wc.set _ _).length=_;rw[length_set];exact l1,λp=>?_⟩
   show (wc.set t.toNat (Xk1 z G st wc t)).getD p z=_
   rw[Ybn z wc t.toNat p _ (by (clear ht;omega)),e0,g1 p]
   by_cases e:p=t.toNat
   .have e':(p:Int)=t:=by (clear ht l1;omega)
    rw[if_pos e,if_pos (by rw[e'];simp),e']
   .rw [if_neg e]
    have:((p:Int)∈(Xd6 h xs.length st).take k++[t])↔(p:Int)∈(Xd6 h xs.length st).take k:=by
     rw[mem_append,mem_singleton]
     constructor
     .rintro (q |q)
      .exact q
      .clear ht l1;omega
     .exact .inl
    by_cases hp:(p:Int)∈(Xd6 h xs.length st).take k
    .rw [if_pos hp,if_pos (this.mpr hp)]
    .rw [if_neg hp,if_neg λq=>hp (this.mp q)]
  .rw [take_of_length_le (by omega)]
   rw[take_of_length_le (by omega)]at l1 g1
   exact⟨l1,g1⟩
theorem Yir {z:α}{G:α->α->α->α}{h st:Int}{xs:List α}(hs:0<st)(hh:h=0∨h=1):
  (Xk2 z G h st xs).length=xs.length/\∀p:Nat,(Xk2 z G h st xs).getD p z=if (p:Int)∈Xd6 h xs.length st then Xk1 z G st xs p else xs.getD p z:=by
 have q:=Ynf (z:=z) (G:=G) (xs:=xs) hs hh (Xd6 h xs.length st).length
 rw[take_length]at q
 exact q
theorem Yne {R:α->β->Prop}{z:α}{y:β}{G:α->α->α->α}{G':β->β->β->β}{h st:Int}{xs:List α}{ys:List β}(hs:0<st)(hh:h=0∨h=1)(hl:xs.length=ys.length)
  (hR:∀p:Nat,p<xs.length->R (xs.getD p z) (ys.getD p y)) (hG:∀a b c a' b' c',R a a'->R b b'->R c c'->R (G a b c) (G' a' b' c')):
  ∀p:Nat,p<xs.length->R ((Xk2 z G h st xs).getD p z) ((Xk2 y G' h st ys).getD p y):=by
 intro p hp
 obtain⟨_,g1⟩:=Yir (z:=z) (G:=G) (xs:=xs) hs hh
 obtain⟨_,g2⟩:=Yir (z:=y) (G:=G') (xs:=ys) hs hh
 rw[g1,g2,<- hl]
 by_cases hm:(p:Int)∈Xd6 h xs.length st
 .rw [if_pos hm,if_pos hm]
  obtain⟨b0,b1,b2,_⟩:=Xq5 hs hh hm
  unfold Xk1
  rw[<- hl]
  exact hG _ _ _ _ _ _ (hR _ (by omega)) (hR _ (by (clear hs b2;omega))) (hR _ (by (clear hs;omega)))
 .rw [if_neg hm,if_neg hm]
  exact hR p hp
def Xga (z:α)(G:Lf->α->α->α->α)(fs:List Lf)(i:Nat)(st:Int)(xs:List α):List α:=(fs.reverse.take i).foldl (λxs f=>Xk2 z (G f) f.h st xs) xs
def Xd7 (z:α)(G:Lf->α->α->α->α)(fs:List Lf)(st:Int)(xs:List α):List α:=fs.reverse.foldl (λxs f=>Xk2 z (G f) f.h st xs) xs
theorem Xtg {z:α}{G:Lf->α->α->α->α}{fs:List Lf}{st:Int}{xs:List α}:Xga z G fs 0 st xs=xs:=rfl
theorem Xu7 {z:α}{G:Lf->α->α->α->α}{fs:List Lf}{st:Int}{xs:List α}:Xga z G fs fs.length st xs=Xd7 z G fs st xs:=by
 unfold Xga Xd7
 rw[take_of_length_le (by simp)]
theorem Xth {z:α}{G:Lf->α->α->α->α}{fs:List Lf}{i:Nat}{st:Int}{xs:List α}{f:Lf}(hi:i<fs.length)(h:fs[fs.length-1-i]?=some f):Xga z G fs (i+1) st xs=Xk2 z (G f) f.h st (Xga z G fs i st xs):=by
 unfold Xga
 have hi':i<fs.reverse.length:=by simpa using hi
 have e:fs.reverse[i]=f:=by
  have:=getElem?_reverse hi
  rw[h,getElem?_eq_getElem hi']at this
  exact Option.some.inj this
 rw[take_succ_eq_append_getElem hi',e,foldl_append]
 rfl
theorem Xir {z:α}{G:α->α->α->α}{h st:Int}{xs:List α}:(Xk2 z G h st xs).length=xs.length:=Xte _ _
theorem Xis {z:α}{G:Lf->α->α->α->α}{st:Int}:∀(gs:List Lf) (xs:List α),(gs.foldl (λxs f=>Xk2 z (G f) f.h st xs) xs).length=xs.length
 | [],_=>rfl
 |g::gs,xs=>by rw[foldl_cons,Xis gs,Xir]
theorem Xu6 {z:α}{G:Lf->α->α->α->α}{fs:List Lf}{i:Nat}{st:Int}{xs:List α}:(Xga z G fs i st xs).length=xs.length:=Xis _ _
theorem Xlv {z:α}{G:Lf->α->α->α->α}{fs:List Lf}{st:Int}{xs:List α}:(Xd7 z G fs st xs).length=xs.length:=Xis _ _
theorem Xti {R:α->β->Prop}{z:α}{y:β}{G:Lf->α->α->α->α}{G':Lf->β->β->β->β}{st:Int}(hs:0<st):∀(gs:List Lf) (xs:List α) (ys:List β),(∀f∈gs,f.Ok)->xs.length=ys.length->
  (∀p:Nat,p<xs.length->R (xs.getD p z) (ys.getD p y))->(∀f:Lf,f.Ok->∀a b c a' b' c',R a a'->R b b'->R c c'->R (G f a b c) (G' f a' b' c'))->
  ∀p:Nat,p<xs.length->R ((gs.foldl (λxs f=>Xk2 z (G f) f.h st xs) xs).getD p z) ((gs.foldl (λys f=>Xk2 y (G' f) f.h st ys) ys).getD p y)
 | [],xs,ys,_,_,hR,_=>hR
 |f::gs,xs,ys,ok,hl,hR,hG=>λp hp=>by
  rw[foldl_cons,foldl_cons]
  have okf:=ok f mem_cons_self
  refine Xti hs gs _ _ (λg hg=>ok g (mem_cons_of_mem _ hg)) (by rw[Xir,Xir,hl]) (λq hq=>?_) hG p (by rw[Xir];exact hp)
  rw[Xir]at hq
  exact Yne hs okf.h hl hR (hG f okf) q hq
theorem Xp3 {R:α->β->Prop}{z:α}{y:β}{G:Lf->α->α->α->α}{G':Lf->β->β->β->β}{fs:List Lf}{st:Int}{xs:List α}{ys:List β}(hs:0<st)(ok:∀f∈fs,f.Ok)(hl:xs.length=ys.length)
  (hR:∀p:Nat,p<xs.length->R (xs.getD p z) (ys.getD p y)) (hG:∀f:Lf,f.Ok->∀a b c a' b' c',R a a'->R b b'->R c c'->R (G f a b c) (G' f a' b' c')):
  ∀p:Nat,p<xs.length->R ((Xd7 z G fs st xs).getD p z) ((Xd7 y G' fs st ys).getD p y):=
 Xti hs fs.reverse xs ys (λf hf=>ok f (mem_reverse.mp hf)) hl hR hG
theorem Ya8 {fs:List Lf}{st:Int}{xs:List Int}:Xcw fs st xs=Xd7 0 (λf x l r=>x+(-1)*Xls f l r) fs st xs:=rfl
end GL
abbrev Sp2:=Int×Int
def Xml (f:Lf)(l r:Sp2):Sp2:=
 let tm (s:Sp2) (m:Int):Sp2:=if m<0 then (s.2*m,s.1*m) else (s.1*m,s.2*m)
 (((tm l f.l).1+(tm r f.r).1+f.a) / 2^f.s.toNat,((tm l f.l).2+(tm r f.r).2+f.a) / 2^f.s.toNat)
def Xd2 (f:Lf)(x l r:Sp2):Sp2:=(x.1-(Xml f l r).2,x.2-(Xml f l r).1)
theorem Xq7 {a b m:Int}(h:a<=b)(hm:0<=m):a*m<=b*m:=Int.mul_le_mul_of_nonneg_right h hm
theorem Xq8 {a b m:Int}(h:a<=b)(hm:m<0):b*m<=a*m:=Int.mul_le_mul_of_nonpos_right h (by omega)
theorem Ydo (n:Nat):(0:Int)<2^n:=Int.pow_pos (by decide)
theorem Xre {a b:Int}(n:Nat)(h:a<=b):a / 2^n<=b / 2^n:=Int.ediv_le_ediv (Ydo n) h
theorem Yc9 {f:Lf}{l r l' r':Sp2}(hl:l.1<=l'.1/\l'.1<=l'.2/\l'.2<=l.2)(hr:r.1<=r'.1/\r'.1<=r'.2/\r'.2<=r.2):
  (Xml f l r).1<=(Xml f l' r').1/\(Xml f l' r').1<=(Xml f l' r').2/\(Xml f l' r').2<=(Xml f l r).2:=by
 have key:∀(m:Int) (s s':Sp2),s.1<=s'.1/\s'.1<=s'.2/\s'.2<=s.2->(if m<0 then (s.2*m,s.1*m) else (s.1*m,s.2*m)).1<=(if m<0 then (s'.2*m,s'.1*m) else (s'.1*m,s'.2*m)).1/\
   (if m<0 then (s'.2*m,s'.1*m) else (s'.1*m,s'.2*m)).1<=(if m<0 then (s'.2*m,s'.1*m) else (s'.1*m,s'.2*m)).2/\(if m<0 then (s'.2*m,s'.1*m) else (s'.1*m,s'.2*m)).2<=(if m<0 then (s.2*m,s.1*m) else (s.1*m,s.2*m)).2:=by
  rintro m s s' ⟨h1,h2,h3⟩
  by_cases hm:m<0
  .simp only[hm,if_true]
   exact⟨Xq8 h3 hm,Xq8 h2 hm,Xq8 h1 hm⟩
  .simp only[hm,if_false]
   exact⟨Xq7 h1 (by omega),Xq7 h2 (by omega),Xq7 h3 (by omega)⟩
 obtain⟨a1,a2,a3⟩:=key f.l l l' hl
 obtain⟨b1,b2,b3⟩:=key f.r r r' hr
 unfold Xml
 dsimp only
 exact⟨Xre _ (by omega),Xre _ (by (clear hl hr a1 a3 b1 b3;omega)),Xre _ (by omega)⟩
def inS (s s':Sp2):Prop:=s.1<=s'.1/\s'.1<=s'.2/\s'.2<=s.2
theorem Yde {f:Lf}{a b c a' b' c':Sp2}(ha:inS a a')(hb:inS b b')(hc:inS c c'):inS (Xd2 f a b c) (Xd2 f a' b' c'):=by
 obtain⟨g1,g2,g3⟩:=Yc9 (f:=f) hb hc
 unfold inS at ha ⊢
 unfold Xd2
 exact⟨by dsimp only;omega,by dsimp only;omega,by dsimp only;omega⟩
theorem Xz1 {f:Lf}{x l r:Int}:Xd2 f (x,x) (l,l) (r,r)=(x+(-1)*Xls f l r,x+(-1)*Xls f l r):=by
 unfold Xd2 Xml Xls
 have e:∀m y:Int,(if m<0 then (y*m,y*m) else (y*m,y*m))=(m*y,m*y):=λm y=>by
  rw[Int.mul_comm y m];split<;>rfl
 dsimp only
 rw[e,e]
 simp only[Prod.mk.injEq]
 omega
theorem Xnr {lo hi c:Int}(hc:0<c)(i:Nat):i<Xhs lo hi c↔lo+(i:Int)*c<hi:=by
 unfold Xhs Builtin.Range.rangeSize
 rw[if_pos (show c > 0 from hc)]
 have h0:0<=(i:Int)*c:=mul_nonneg (by omega) (by omega)
 split
 .have e:=Int.le_ediv_iff_mul_le (a:=(i:Int)) (b:=hi-lo-1) hc
  have e0:0<=(hi-lo-1) / c:=ediv_nonneg (by omega) (by omega)
  constructor
  .intro z
   have:=e.mp (by omega)
   omega
  .intro z
   have:=e.mpr (by omega)
   omega
 .simp only[Int.toNat_zero]
  omega
theorem Xs4 {a b:Nat}(h:∀i,i<a↔i<b):a=b:=by
 rcases Nat.lt_trichotomy a b with z |z |z
 .exact absurd ((h a).mpr z) (lt_irrefl _)
 .exact z
 .exact absurd ((h b).mp z) (lt_irrefl _)
section PT
variable {α:Type}
end PT
theorem Xwt {n:Nat}{i:Int}(h0:0<=i)(h:i<n):ixN n i=some i.toNat:=by
 unfold ixN
 rw[if_pos h0,if_pos h]
theorem Xro {α:Type}(z:α){g:α->D}{xs:List α}{i:Int}(h0:0<=i)(h:i<xs.length):atI (xs.map g) i=some (g (xs.getD i.toNat z)):=by
 have hi:i.toNat<xs.length:=by omega
 have e:=Xhp (xs:=xs.map g) (j:=i.toNat) (v:=g (xs.getD i.toNat z)) (by simp[hi])
 rwa[show ((i.toNat:Nat):Int)=i by omega]at e
theorem Xt0 {α:Type}{xs:List α}{g:α->D}:List.map OV.val (xs.map λx=>OV.fz (g x))=xs.map g:=by
 rw[map_map];rfl
theorem Yis {α:Type}{xs:List α}{g:α->D}:(xs.map g).map OV.fz=xs.map λx=>OV.fz (g x):=by
 rw[map_map];rfl
theorem Ycw {α β:Type}{xs:List α}{i:Nat}{v:α}{g:α->β}:(xs.map g).set i (g v)=(xs.set i v).map g:=by
 rw[List.map_set]
theorem Yhj {h n st:Int}(hs:0<st):Xhs (h*st) n (2*st)=Ygb h n st:=by
 unfold Xhs Ygb Builtin.Range.rangeSize
 rw[if_pos (show 2*st > 0 by omega)]
def Yfo (h n st:Int)(k:Nat):List Int:=if n<=st then [] else (List.range k).map λ(i:Nat)=>h*st+(i:Int)*(2*st)
def plD (n st:Int)(t:Int):D:=.tup [.int t,.int (nbL t n st),.int (nbR t n st)]
abbrev Xfe:Stmt:=top 54
theorem Xdb:FnScope ["half","many","stride","found","at","pair"] ["half","many","stride"] (Xaf Xfe):=by walk_at "S"
def Xbw:DSp:=λds P=>match ds with
 | [.int h,.int n,.int st]=>((h=0∨h=1)/\0<st/\st<=64/\0<=n/\n<=100000)/\P (.nl ((Xd6 h n st).map λt=>.fz (plD n st t)))
 |_=>False
theorem Xmn {f:Addr}{fd:FuncData}(Df:DefAt K mg "lifted_places" Xfe f fd)(B:BltV mg)(KV:KitV K)(Xiu:Cal P w K mg base "neighbours" 1 ["at","many","stride"] (spV K 3 Xe1)):
  Cal P w K mg base "lifted_places" 2 ["half","many","stride"] (spV K 3 Xbw):=by
 refine CalV.of Df Xdb (by walk_at "b") rfl (λc A o s H E hr=>⟨_,_,(Xah (Xa9 (i:=3) Xdb.nd rfl (Or.inl rfl) (Xb8 Xad))
   (Xah (Xcv PassesOwn.never rfl (Xii (by rfl) (by exact B.range) (Xaa (Xaw Xet (pv 0) (pv 2)) (Xaa (pv 1) (Xaa (Xaw Xet Xaj (pv 2)) Xad)))) (Xau (i:=4) Xdb.nd rfl (Or.inl rfl)) (Xah (Xa9 (i:=5) Xdb.nd rfl (Or.inl rfl) (Xa0 Xiu (hr.mono (by decide)) (by rfl) (Xaa (pv 4) (Xaa (pv 1) (Xaa (pv 2) Xad)))))
   (Xal (Xcm (Xbq Yhr (pv 5) Xwf (Xbo _)) (Xal (Xbl (Xik plainAttrs_list PySem.F.slot_list_append PySem.F.type_list_append Xci (pv 3) (Xaa (Xbd (Xaa (pv 4) (Xaa (Xax Xas (pv 5) Xaj (λ_ _=>rfl)) (Xaa (Xax Xas (pv 5) Xaj (λ_ _=>rfl)) Xad)))) Xad)))) Xbg))))
   (Xal (Xa1 (pv 3))))),
  (Xam (Xa8 (Xc4 Xb7))
   (Xam (Xcu (Xnq (Xai (Xap (Xaq Xdd Xac Xac)) (Xai Xac (Xai (Xap (Xaq Xdd (Xap Xae) Xac)) Xan)))) Xav (Xam (Xa8 (Xbk (Xb4 (Xat (Xab Xag (Xab Xag (Xab Xag Xak)))))))
   (Xcl (Xbp (Xaq Yh2 Xac (Xap Xv3))) (Xse (Xbk (Xbx (Xab Xag (Xab (Xbj Xar Xag Xae) (Xab (Xbj Xar Xag Xae) Xak)))))) Xbf)))
   Xfh)),?_⟩)
 intro ds Pr h
 unfold Xbw at h
 split at h
 .rename_i h' n st
  obtain⟨⟨hh,s0,s1,n0,n1⟩,k⟩:=h
  fin2
  refine⟨.inr ⟨by omega,by omega⟩,⟨by rcases hh with rfl |rfl<;>omega,by rcases hh with rfl |rfl<;>omega,by omega,by omega,by omega,by omega⟩,?_⟩
  rw[Yhj s0]
  refine⟨λi M=>i<=Ygb h' n st/\∃o1 o2,M=[vI h',vI n,vI st,vL ((Yfo h' n st i).map λt=>.fz (plD n st t)),o1,o2],⟨zero_le _,_,_,by unfold Yfo;split<;>rfl⟩,?_,?_⟩
  .rintro i d M hd ⟨hi',o1,o2,rfl⟩
   obtain⟨hi,rfl⟩:=Xfj hd
   have hlt:=(Xw1 (h:=h') (n:=n) s0 i).mp hi
   have hcnt:Ygb h' n st<=100001:=by
    rcases lt_or_ge 100001 (Ygb h' n st) with z |z
    .have:=(Xw1 (h:=h') (n:=n) s0 100001).mp z
     have h0:0<=h'*st:=by rcases hh with rfl |rfl<;>omega
     omega
    .exact z
   fin2
   unfold Xe1
   generalize ht:h'*st+(i:Int)*(2*st)=t at *
   try dsimp only
   split
   .rename_i hn
    fin2
    have hns:n<=st:=by
     rcases Int.lt_or_le st n with z |z
     .exact absurd hn (Xq5 s0 hh ((Xfk s0).mpr ⟨by omega,hlt,i,ht.symm⟩)).2.2.2
     .exact z
    have e:∀j,Yfo h' n st j=[]:=λj=>if_pos hns
    rw[e,e]
    exact⟨hi,_,_,rfl⟩
   .rename_i hn
    fin2
    have hns:¬ n<=st:=λz=>hn (by
     have h0:0<=(i:Int)*(2*st):=mul_nonneg (by omega) (by omega)
     have h1:0<=h'*st:=by rcases hh with rfl |rfl<;>omega
     constructor<;>omega)
    have el:(Yfo h' n st i).length=i:=by unfold Yfo;rw[if_neg hns];simp
    have e:Yfo h' n st (i+1)=Yfo h' n st i++[t]:=by
     unfold Yfo
     rw[if_neg hns,if_neg hns,range_succ,map_append,<- ht]
     rfl
    rw[e,map_append]
    exact⟨by omega,hi,_,_,rfl⟩
  .rintro M ⟨_,o1,o2,rfl⟩
   fin2
   rw[Xdu]
   exact k
 .exact h.elim
def lfD (f:Lf):D:=.tup [.int f.h,.int f.l,.int f.r,.int f.a,.int f.s]
abbrev Xzn:Stmt:=top 55
theorem Ygz:FnScope ["lift","left","right"] ["lift","left","right"] (Xaf Xzn):=by walk_at "S"
def Xt6:DSp:=λds P=>∃(f:Lf) (x y:Int),ds=[lfD f,.int x,.int y]/\f.Ok/\P (.fz (.int (Xls f x y)))
theorem Yh0 {f:Addr}{fd:FuncData}(Df:DefAt K mg "gain" Xzn f fd)(B:BltV mg)(KV:KitV K)(Xlt:∃t,mg "SHIFT"=some (.int 4 t))(Xu4:∃t,mg "ADD"=some (.int 3 t))(Xp2:∃t,mg "LEFT"=some (.int 1 t))(Xlu:∃t,mg "RIGHT"=some (.int 2 t)):
  Cal P w K mg base "gain" 1 ["lift","left","right"] (spV K 3 Xt6):=by
 refine CalV.of Df Ygz (by walk_at "b") rfl (λc A o s H E hr=>⟨_,_,(Xal (Xa1 (Xaw Xps (Xaw Xc5 (Xaw Xc5 (Xaw Xet (Xax Xas (pv 0) (Xao (by rfl) Xp2) (λ_ _=>rfl)) (pv 1)) (Xaw Xet (Xax Xas (pv 0) (Xao (by rfl) Xlu) (λ_ _=>rfl)) (pv 2))) (Xax Xas (pv 0) (Xao (by rfl) Xu4) (λ_ _=>rfl))) (Xax Xas (pv 0) (Xao (by rfl) Xlt) (λ_ _=>rfl))))),
  (Xa4 (Xbk (Xaq Xdd (Xap (Xaq Xb5 (Xap (Xaq Xb5 (Xap (Xaq Xdd (Xbe (OpF.b Xar) Xac (Xap Xae)) Xac)) (Xap (Xaq Xdd (Xbe (OpF.b Xar) Xac (Xap Xae)) Xac)))) (Xbe (OpF.b Xar) Xac (Xap Xae)))) (Xbe (OpF.b Xar) Xac (Xap Xae))))),?_⟩)
 rintro ds Pr ⟨f,x,y,rfl,ok,k⟩
 have h1:=ok.l
 have h2:=ok.r
 have h3:=ok.s
 simp only[lfD]
 fin2
 exact⟨Yoi (by omega) (by omega),Yoi (by omega) (by omega),h3.1,k⟩
def Xge (fs:List Lf):D:=.tup (fs.map lfD)
def iL (xs:List Int):D:=.lst (xs.map D.int)
def iO (xs:List Int):OV:=.nl (xs.map λx=>.fz (.int x))
theorem Xxp {st:Int}{xs:List Int}{fs:List Lf}{i:Nat}{f:Lf}(h:fs[i]?=some f):Xbs (fs.take (i+1)) st xs=Xhu 1 f st (Xbs (fs.take i) st xs):=by
 obtain⟨hi,e⟩:=List.getElem?_eq_some_iff.mp h
 rw[take_succ_eq_append_getElem hi,e]
 unfold Xbs
 rw[foldl_append]
 rfl
abbrev Xqi:Stmt:=top 56
theorem Xgi:FnScope ["row","ladder","stride","things","lift","at","left","right"] ["row","ladder","stride"] (Xaf Xqi):=by walk_at "S"
def Xfc:DSp:=λds P=>∃(xs:List Int) (fs:List Lf) (st:Int),ds=[iL xs,Xge fs,.int st]/\((∀f∈fs,f.Ok)/\0<st/\st<=64/\xs.length<=100000)/\P (iO (Xbs fs st xs))
theorem Yav {f:Addr}{fd:FuncData}(Df:DefAt K mg "raised" Xqi f fd)(B:BltV mg)(KV:KitV K)(Xk0:∃t,mg "HALF"=some (.int 0 t))(Xbt:Cal P w K mg base "lifted_places" 2 ["half","many","stride"] (spV K 3 Xbw))(Xp6:Cal P w K mg base "gain" 1 ["lift","left","right"] (spV K 3 Xt6)):
  Cal P w K mg base "raised" 3 ["row","ladder","stride"] (spV K 3 Xfc):=by
 refine CalV.of Df Xgi (by walk_at "b") rfl (λc A o s H E hr=>⟨_,_,(Xah (Xa9 (i:=3) Xgi.nd rfl (Or.inl rfl) (Xdz Xlx (by rfl) B.list PyProof.Rows.boot_list (Xaa (pv 0) Xad)))
   (Xah (Xcv PassesOwn.never rfl (Yfp (pv 1)) (Xau (i:=4) Xgi.nd rfl (Or.inl rfl)) (Xal (Xcv PassesOwn.never rfl (Xdw (Xa0 Xbt (hr.mono (by decide)) (by rfl) (Xaa (Xax Xas (pv 4) (Xao (by rfl) Xk0) (λ_ _=>rfl)) (Xaa (Xay Xa2 (by rfl) B.len boot_len (Xaa (pv 0) Xad)) (Xaa (pv 2) Xad))))) (Xgl (n:=3) rfl (Xbc (Xau (i:=5) Xgi.nd rfl (Or.inl rfl)) (Xbc (Xau (i:=6) Xgi.nd rfl (Or.inl rfl)) (Xbc (Xau (i:=7) Xgi.nd rfl (Or.inl rfl)) Xeg)))) (Xal (Yac (pv 3) (pv 5) Xtd (Xa0 Xp6 (hr.mono (by decide)) (by rfl) (Xaa (pv 4) (Xaa (Xax Xbr (pv 3) (pv 6) (λ_ _=>rfl)) (Xaa (Xax Xbr (pv 3) (pv 7) (λ_ _=>rfl)) Xad)))) Yf0 Xi1)))))
   (Xal (Xa1 (pv 3))))),
  (Xam (Xa8 (Yc6 Xvk (Xab Xag Xak)))
   (Xam (Xcu (Yfd Xag) Xav (Xcu (Xed (Xb4 (Xat (Xab (Xbj Xar Xag Xae) (Xab (Xb0 Xcx (Xai Xac Xan)) (Xab Xag Xak)))))) (Xgk (Xbb Xav (Xbb Xav (Xbb Xav Xee)))) (Xzq Xac (Xap (Xb4 (Xeq (Xai Xac (Xai (Xbe (OpF.b Xch) Xac Xac) (Xai (Xbe (OpF.b Xch) Xac Xac) Xan)))))))))
   Xfh)),?_⟩)
 rintro ds Pr ⟨xs,fs,st,rfl,⟨oks,s0,s1,hx⟩,k⟩
 simp only[iL,Xge]
 fin2
 refine⟨λi M=>∃o1 o2 o3 o4,M=[vD (iL xs),vD (Xge fs),vI st,some (.own (iO (Xbs (fs.take i) st xs))),o1,o2,o3,o4],⟨none,none,none,none,by simp[iL,Xge,iO,Xbs]⟩,?_,?_⟩
 .rintro i d M hd ⟨o1,o2,o3,o4,rfl⟩
  obtain⟨f,hf,rfl⟩:=Xs6 hd
  have okf:=oks f (mem_of_getElem? hf)
  have hlen:(Xbs (fs.take i) st xs).length=xs.length:=Xsm s0 xs λg hg=>(oks g (mem_of_mem_take hg)).h
  dsimp only
  rw[Xxp hf]
  generalize hc:Xbs (fs.take i) st xs=cur at hlen
  simp only[iL,Xge,iO,lfD]
  fin2
  simp only[Xbw]
  refine⟨⟨okf.h,s0,s1,by omega,by omega⟩,?_⟩
  fin2
  simp only[map_map,Function.comp_def,OV.val]
  rw[<- hlen]
  refine⟨λj M=>∃o2 o3 o4,M=[vD (iL xs),vD (Xge fs),vI st,some (.own (iO (((Xd6 f.h cur.length st).take j).foldl (Xm4 1 f st) cur))),vD (lfD f),o2,o3,o4],⟨_,_,_,rfl⟩,?_,?_⟩
  .rintro j e M he ⟨p2,p3,p4,rfl⟩
   obtain⟨t,ht,rfl⟩:=Xs6 he
   have htm:t∈Xd6 f.h cur.length st:=mem_of_getElem? ht
   obtain⟨hjt,htt⟩:=List.getElem?_eq_some_iff.mp ht
   obtain⟨b0,b1,b2,_⟩:=Xq5 s0 okf.h htm
   have hla:=(Xux (sg:=1) (f:=f) (st:=st) (xs:=cur) s0 okf.h j).1
   have etake:(Xd6 f.h cur.length st).take (j+1)=(Xd6 f.h cur.length st).take j++[t]:=by
    rw[take_succ_eq_append_getElem hjt,htt]
   dsimp only
   rw[etake,foldl_append]
   generalize hw:((Xd6 f.h cur.length st).take j).foldl (Xm4 1 f st) cur=wcur at hla
   simp only[iL,Xge,iO,plD,lfD]
   fin2
   refine⟨b0.1,_,Ybm b0.1 (by omega),_,Xi8 b1.1 (by omega),_,Xi8 b2.1 (by omega),f,_,_,rfl,okf,?_⟩
   fin2
   simp only[foldl_cons,foldl_nil,Xm4,Xhy,hla,one_mul]
   exact⟨_,_,_,rfl⟩
  .rintro M ⟨p2,p3,p4,rfl⟩
   rw[length_map,take_length]
   exact⟨_,_,_,_,rfl⟩
 .rintro M ⟨o1,o2,o3,o4,rfl⟩
  fin2
  rw[take_length]
  exact k
def spD (s:Sp2):D:=.tup [.int s.1,.int s.2]
def sL (xs:List Sp2):D:=.lst (xs.map spD)
def sO (xs:List Sp2):OV:=.nl (xs.map λs=>.fz (spD s))
theorem Xuy {xs:List Sp2}:OV.lfs (xs.map λs=>OV.fz (spD s))=true:=by
 rw[OV.lfs_eq];simp[OV.lf,D.lf,D.lfs,spD]
theorem Ybb {s:Sp2}:(spD s).lf=true:=by simp[D.lf,D.lfs,spD]
abbrev Xzl:Stmt:=top 36
theorem Ygy:FnScope ["one","other"] ["one","other"] (Xaf Xzl):=by walk_at "S"
def Xy8:DSp:=λds P=>∃a b:Sp2,ds=[spD a,spD b]/\P (.fz (spD (a.1+b.1,a.2+b.2)))
theorem Yhy {f:Addr}{fd:FuncData}(Df:DefAt K mg "plus" Xzl f fd)(B:BltV mg)(KV:KitV K):
  Cal P w K mg base "plus" 1 ["one","other"] (spV K 2 Xy8):=by
 refine CalV.of Df Ygy (by walk_at "b") rfl (λc A o s H E hr=>⟨_,_,(Xal (Xa1 (Xbd (Xaa (Xaw Xc5 (Xax Xas (pv 0) Xaj (λ_ _=>rfl)) (Xax Xas (pv 1) Xaj (λ_ _=>rfl))) (Xaa (Xaw Xc5 (Xax Xas (pv 0) Xaj (λ_ _=>rfl)) (Xax Xas (pv 1) Xaj (λ_ _=>rfl))) Xad))))),
  (Xa4 (Xbk (Xbx (Xab (Xaq Xb5 (Xbe (OpF.b Xar) Xac (Xap Xae)) (Xbe (OpF.b Xar) Xac (Xap Xae))) (Xab (Xaq Xb5 (Xbe (OpF.b Xar) Xac (Xap Xae)) (Xbe (OpF.b Xar) Xac (Xap Xae))) Xak))))),?_⟩)
 rintro ds Pr ⟨a,b,rfl,k⟩
 simp only[spD]at k ⊢
 fin2
 exact k
abbrev Xua:Stmt:=top 37
theorem Ycy:FnScope ["one","other"] ["one","other"] (Xaf Xua):=by walk_at "S"
def Xvw:DSp:=λds P=>∃a b:Sp2,ds=[spD a,spD b]/\P (.fz (spD (a.1-b.2,a.2-b.1)))
theorem Ydy {f:Addr}{fd:FuncData}(Df:DefAt K mg "minus" Xua f fd)(B:BltV mg)(KV:KitV K):
  Cal P w K mg base "minus" 1 ["one","other"] (spV K 2 Xvw):=by
 refine CalV.of Df Ycy (by walk_at "b") rfl (λc A o s H E hr=>⟨_,_,(Xal (Xa1 (Xbd (Xaa (Xaw Xdl (Xax Xas (pv 0) Xaj (λ_ _=>rfl)) (Xax Xas (pv 1) Xaj (λ_ _=>rfl))) (Xaa (Xaw Xdl (Xax Xas (pv 0) Xaj (λ_ _=>rfl)) (Xax Xas (pv 1) Xaj (λ_ _=>rfl))) Xad))))),
  (Xa4 (Xbk (Xbx (Xab (Xaq Xb5 (Xbe (OpF.b Xar) Xac (Xap Xae)) (Xbe (OpF.b Xar) Xac (Xap Xae))) (Xab (Xaq Xb5 (Xbe (OpF.b Xar) Xac (Xap Xae)) (Xbe (OpF.b Xar) Xac (Xap Xae))) Xak))))),?_⟩)
 rintro ds Pr ⟨a,b,rfl,k⟩
 simp only[spD]at k ⊢
 fin2
 exact k
def tmS (s:Sp2)(m:Int):Sp2:=if m<0 then (s.2*m,s.1*m) else (s.1*m,s.2*m)
abbrev Xt9:Stmt:=top 38
theorem Ycx:FnScope ["one","many"] ["one","many"] (Xaf Xt9):=by walk_at "S"
def Xvv:DSp:=λds P=>∃(a:Sp2) (m:Int),ds=[spD a,.int m]/\(-1000000<=m/\m<=1000000)/\P (.fz (spD (tmS a m)))
theorem Ydx {f:Addr}{fd:FuncData}(Df:DefAt K mg "times" Xt9 f fd)(B:BltV mg)(KV:KitV K):
  Cal P w K mg base "times" 1 ["one","many"] (spV K 2 Xvv):=by
 refine CalV.of Df Ycx (by walk_at "b") rfl (λc A o s H E hr=>⟨_,_,(Xah (Xcm (Xbq Xn1 (pv 1) Xaj (Xbo _)) (Xal (Xa1 (Xbd (Xaa (Xaw Xet (Xax Xas (pv 0) Xaj (λ_ _=>rfl)) (pv 1)) (Xaa (Xaw Xet (Xax Xas (pv 0) Xaj (λ_ _=>rfl)) (pv 1)) Xad))))) Xbg)
   (Xal (Xa1 (Xbd (Xaa (Xaw Xet (Xax Xas (pv 0) Xaj (λ_ _=>rfl)) (pv 1)) (Xaa (Xaw Xet (Xax Xas (pv 0) Xaj (λ_ _=>rfl)) (pv 1)) Xad)))))),
  (Xam (Xcl (Xbp (Xaq Xf9 Xac (Xap Xae))) (Xa4 (Xbk (Xbx (Xab (Xaq Xdd (Xbe (OpF.b Xar) Xac (Xap Xae)) Xac) (Xab (Xaq Xdd (Xbe (OpF.b Xar) Xac (Xap Xae)) Xac) Xak))))) Xbf)
   (Xa4 (Xbk (Xbx (Xab (Xaq Xdd (Xbe (OpF.b Xar) Xac (Xap Xae)) Xac) (Xab (Xaq Xdd (Xbe (OpF.b Xar) Xac (Xap Xae)) Xac) Xak)))))),?_⟩)
 rintro ds Pr ⟨a,m,rfl,hm,k⟩
 simp only[spD,tmS]at k ⊢
 fin2
 split
 .rename_i h
  rw[if_pos h]at k
  exact⟨Ymk hm.1 hm.2,Ymk hm.1 hm.2,k⟩
 .rename_i h
  rw[if_neg h]at k
  exact⟨Ymk hm.1 hm.2,Ymk hm.1 hm.2,k⟩
abbrev Xqk:Stmt:=top 39
theorem Xzi:FnScope ["one","shift"] ["one","shift"] (Xaf Xqk):=by walk_at "S"
def Xrz:DSp:=λds P=>∃(a:Sp2) (m:Int),ds=[spD a,.int m]/\0<=m/\P (.fz (spD (a.1 / 2^m.toNat,a.2 / 2^m.toNat)))
theorem Yaz {f:Addr}{fd:FuncData}(Df:DefAt K mg "halved" Xqk f fd)(B:BltV mg)(KV:KitV K):
  Cal P w K mg base "halved" 1 ["one","shift"] (spV K 2 Xrz):=by
 refine CalV.of Df Xzi (by walk_at "b") rfl (λc A o s H E hr=>⟨_,_,(Xal (Xa1 (Xbd (Xaa (Xaw Xps (Xax Xas (pv 0) Xaj (λ_ _=>rfl)) (pv 1)) (Xaa (Xaw Xps (Xax Xas (pv 0) Xaj (λ_ _=>rfl)) (pv 1)) Xad))))),
  (Xa4 (Xbk (Xbx (Xab (Xaq Xdd (Xbe (OpF.b Xar) Xac (Xap Xae)) Xac) (Xab (Xaq Xdd (Xbe (OpF.b Xar) Xac (Xap Xae)) Xac) Xak))))),?_⟩)
 rintro ds Pr ⟨a,m,rfl,hm,k⟩
 simp only[spD]at k ⊢
 fin2
 exact⟨hm,hm,k⟩
def Xgm (fs:List Lf)(i:Nat)(st:Int)(xs:List Int):List Int:=(fs.reverse.take i).foldl (λxs f=>Xhu (-1) f st xs) xs
theorem Xuw {fs:List Lf}{st:Int}{xs:List Int}:Xgm fs 0 st xs=xs:=rfl
theorem Xx9 {fs:List Lf}{st:Int}{xs:List Int}:Xgm fs fs.length st xs=Xcw fs st xs:=by
 unfold Xgm Xcw
 rw[take_of_length_le (by simp)]
theorem Xoa {fs:List Lf}{i:Nat}{st:Int}{xs:List Int}{f:Lf}(hi:i<fs.length)(h:fs[fs.length-1-i]?=some f):Xgm fs (i+1) st xs=Xhu (-1) f st (Xgm fs i st xs):=by
 unfold Xgm
 have hi':i<fs.reverse.length:=by simpa using hi
 have e:fs.reverse[i]=f:=by
  have:=getElem?_reverse hi
  rw[h,getElem?_eq_getElem hi']at this
  exact Option.some.inj this
 rw[take_succ_eq_append_getElem hi',e,foldl_append]
 rfl
theorem Xlr {fs:List Lf}{st:Int}(hs:0<st)(xs:List Int):∀(i:Nat),(∀f∈fs,f.h=0∨f.h=1)->(Xgm fs i st xs).length=xs.length
 | 0,_=>rfl
 |i + 1,h=>by
  by_cases hi:i<fs.length
  .obtain ⟨f,hf⟩:∃f,fs[fs.length-1-i]?=some f:=⟨_,getElem?_eq_getElem (by omega)⟩
   rw[Xoa hi hf]
   exact (Xkv hs (h f (mem_of_getElem? hf))).1.trans (Xlr hs xs i h)
  .have e:Xgm fs (i+1) st xs=Xgm fs i st xs:=by
    unfold Xgm
    rw[take_of_length_le (by simp;omega),take_of_length_le (by simp;omega)]
   rw[e];exact Xlr hs xs i h
abbrev Xnn:Stmt:=top 57
theorem Xe8:FnScope ["row","ladder","stride","things","lift","at","left","right"] ["row","ladder","stride"] (Xaf Xnn):=by walk_at "S"
def Xe7:DSp:=λds P=>∃(xs:List Int) (fs:List Lf) (st:Int),ds=[iL xs,Xge fs,.int st]/\((∀f∈fs,f.Ok)/\0<st/\st<=64/\xs.length<=100000)/\P (iO (Xcw fs st xs))
theorem Xxy {f:Addr}{fd:FuncData}(Df:DefAt K mg "lowered" Xnn f fd)(B:BltV mg)(KV:KitV K)(Xk0:∃t,mg "HALF"=some (.int 0 t))(Xbt:Cal P w K mg base "lifted_places" 2 ["half","many","stride"] (spV K 3 Xbw))(Xp6:Cal P w K mg base "gain" 1 ["lift","left","right"] (spV K 3 Xt6)):
  Cal P w K mg base "lowered" 3 ["row","ladder","stride"] (spV K 3 Xe7):=by
 refine CalV.of Df Xe8 (by walk_at "b") rfl (λc A o s H E hr=>⟨_,_,(Xah (Xa9 (i:=3) Xe8.nd rfl (Or.inl rfl) (Xdz Xlx (by rfl) B.list PyProof.Rows.boot_list (Xaa (pv 0) Xad)))
   (Xah (Xcv PassesOwn.never rfl (Xnw rfl B.reversed (Xaa (pv 1) Xad)) (Xau (i:=4) Xe8.nd rfl (Or.inl rfl)) (Xal (Xcv PassesOwn.never rfl (Xdw (Xa0 Xbt (hr.mono (by decide)) (by rfl) (Xaa (Xax Xas (pv 4) (Xao (by rfl) Xk0) (λ_ _=>rfl)) (Xaa (Xay Xa2 (by rfl) B.len boot_len (Xaa (pv 0) Xad)) (Xaa (pv 2) Xad))))) (Xgl (n:=3) rfl (Xbc (Xau (i:=5) Xe8.nd rfl (Or.inl rfl)) (Xbc (Xau (i:=6) Xe8.nd rfl (Or.inl rfl)) (Xbc (Xau (i:=7) Xe8.nd rfl (Or.inl rfl)) Xeg)))) (Xal (Yac (pv 3) (pv 5) Xtd (Xa0 Xp6 (hr.mono (by decide)) (by rfl) (Xaa (pv 4) (Xaa (Xax Xbr (pv 3) (pv 6) (λ_ _=>rfl)) (Xaa (Xax Xbr (pv 3) (pv 7) (λ_ _=>rfl)) Xad)))) Yk8 Xi1)))))
   (Xal (Xa1 (pv 3))))),
  (Xam (Xa8 (Yc6 Xvk (Xab Xag Xak)))
   (Xam (Xcu (Yfe (Xab Xag Xak)) Xav (Xcu (Xed (Xb4 (Xat (Xab (Xbj Xar Xag Xae) (Xab (Xb0 Xcx (Xai Xac Xan)) (Xab Xag Xak)))))) (Xgk (Xbb Xav (Xbb Xav (Xbb Xav Xee)))) (Xzq Xac (Xap (Xb4 (Xeq (Xai Xac (Xai (Xbe (OpF.b Xch) Xac Xac) (Xai (Xbe (OpF.b Xch) Xac Xac) Xan)))))))))
   Xfh)),?_⟩)
 rintro ds Pr ⟨xs,fs,st,rfl,⟨oks,s0,s1,hx⟩,k⟩
 simp only[iL,Xge]
 fin2
 refine⟨λi M=>∃o1 o2 o3 o4,M=[vD (iL xs),vD (Xge fs),vI st,some (.own (iO (Xgm fs i st xs))),o1,o2,o3,o4],⟨none,none,none,none,by simp[iL,Xge,iO,Xuw]⟩,?_,?_⟩
 .rintro i d M hd ⟨o1,o2,o3,o4,rfl⟩
  rw[<- map_reverse]at hd
  obtain⟨f,hf,rfl⟩:=Xs6 hd
  have hil:i<fs.length:=by
   have:=(List.getElem?_eq_some_iff.mp hf).1
   rwa[length_reverse]at this
  rw[getElem?_reverse hil]at hf
  have okf:=oks f (mem_of_getElem? hf)
  have hlen:(Xgm fs i st xs).length=xs.length:=Xlr s0 xs i λg hg=>(oks g hg).h
  dsimp only
  rw[Xoa hil hf]
  generalize hc:Xgm fs i st xs=cur at hlen
  simp only[iL,Xge,iO,lfD]
  fin2
  simp only[Xbw]
  refine⟨⟨okf.h,s0,s1,by omega,by omega⟩,?_⟩
  fin2
  simp only[map_map,Function.comp_def,OV.val]
  rw[<- hlen]
  refine⟨λj M=>∃o2 o3 o4,M=[vD (iL xs),vD (Xge fs),vI st,some (.own (iO (((Xd6 f.h cur.length st).take j).foldl (Xm4 (-1) f st) cur))),vD (lfD f),o2,o3,o4],⟨_,_,_,rfl⟩,?_,?_⟩
  .rintro j e M he ⟨p2,p3,p4,rfl⟩
   obtain⟨t,ht,rfl⟩:=Xs6 he
   have htm:t∈Xd6 f.h cur.length st:=mem_of_getElem? ht
   obtain⟨hjt,htt⟩:=List.getElem?_eq_some_iff.mp ht
   obtain⟨b0,b1,b2,_⟩:=Xq5 s0 okf.h htm
   have hla:=(Xux (sg:=(-1)) (f:=f) (st:=st) (xs:=cur) s0 okf.h j).1
   have etake:(Xd6 f.h cur.length st).take (j+1)=(Xd6 f.h cur.length st).take j++[t]:=by
    rw[take_succ_eq_append_getElem hjt,htt]
   dsimp only
   rw[etake,foldl_append]
   generalize hw:((Xd6 f.h cur.length st).take j).foldl (Xm4 (-1) f st) cur=wcur at hla
   simp only[iL,Xge,iO,plD,lfD]
   fin2
   refine⟨b0.1,_,Ybm b0.1 (by (clear hx hil hlen htt;omega)),_,Xi8 b1.1 (by (clear hx hil hlen htt;omega)),_,Xi8 b2.1 (by (clear hx hil hlen htt;omega)),f,_,_,rfl,okf,?_⟩
   fin2
   simp only[foldl_cons,foldl_nil,Xm4,Xhy,hla,show ∀a b:Int,a + -1*b=a-b from λa b=>by omega]
   exact⟨_,_,_,rfl⟩
  .rintro M ⟨p2,p3,p4,rfl⟩
   rw[length_map,take_length]
   exact⟨_,_,_,_,rfl⟩
 .rintro M ⟨o1,o2,o3,o4,rfl⟩
  fin2
  rw[length_reverse,length_map,Xx9]
  exact k
theorem Yda {f:Lf}{l r:Sp2}:Xml f l r=(((tmS l f.l).1+(tmS r f.r).1+f.a) / 2^f.s.toNat,((tmS l f.l).2+(tmS r f.r).2+f.a) / 2^f.s.toNat):=rfl
abbrev Xjs:Stmt:=top 59
theorem Xl6:FnScope ["lift","left","right","both"] ["lift","left","right"] (Xaf Xjs):=by walk_at "S"
def Xl4:DSp:=λds P=>∃(f:Lf) (l r:Sp2),ds=[lfD f,spD l,spD r]/\f.Ok/\P (.fz (spD (Xml f l r)))
theorem Xsy {f:Addr}{fd:FuncData}(Df:DefAt K mg "gain_span" Xjs f fd)(B:BltV mg)(KV:KitV K)(Xlt:∃t,mg "SHIFT"=some (.int 4 t))(Xp2:∃t,mg "LEFT"=some (.int 1 t))(Xlu:∃t,mg "RIGHT"=some (.int 2 t))(Xu4:∃t,mg "ADD"=some (.int 3 t))(Xw3:Cal P w K mg base "plus" 1 ["one","other"] (spV K 2 Xy8))(Xrh:Cal P w K mg base "times" 1 ["one","many"] (spV K 2 Xvv))(Xrk:Cal P w K mg base "halved" 1 ["one","shift"] (spV K 2 Xrz)):
  Cal P w K mg base "gain_span" 2 ["lift","left","right"] (spV K 3 Xl4):=by
 refine CalV.of Df Xl6 (by walk_at "b") rfl (λc A o s H E hr=>⟨_,_,(Xah (Xa9 (i:=3) Xl6.nd rfl (Or.inl rfl) (Xa0 Xw3 (hr.mono (by decide)) (by rfl) (Xaa (Xa0 Xrh (hr.mono (by decide)) (by rfl) (Xaa (pv 1) (Xaa (Xax Xas (pv 0) (Xao (by rfl) Xp2) (λ_ _=>rfl)) Xad))) (Xaa (Xa0 Xrh (hr.mono (by decide)) (by rfl) (Xaa (pv 2) (Xaa (Xax Xas (pv 0) (Xao (by rfl) Xlu) (λ_ _=>rfl)) Xad))) Xad))))
   (Xal (Xa1 (Xa0 Xrk (hr.mono (by decide)) (by rfl) (Xaa (Xa0 Xw3 (hr.mono (by decide)) (by rfl) (Xaa (pv 3) (Xaa (Xbd (Xaa (Xax Xas (pv 0) (Xao (by rfl) Xu4) (λ_ _=>rfl)) (Xaa (Xax Xas (pv 0) (Xao (by rfl) Xu4) (λ_ _=>rfl)) Xad))) Xad))) (Xaa (Xax Xas (pv 0) (Xao (by rfl) Xlt) (λ_ _=>rfl)) Xad)))))),
  (Xam (Xa8 (Xbk (Xb4 (Xat (Xab (Xb4 (Xat (Xab Xag (Xab (Xbj Xar Xag Xae) Xak)))) (Xab (Xb4 (Xat (Xab Xag (Xab (Xbj Xar Xag Xae) Xak)))) Xak))))))
   (Xa4 (Xat (Xab (Xb4 (Xat (Xab Xag (Xab (Xbx (Xab (Xbj Xar Xag Xae) (Xab (Xbj Xar Xag Xae) Xak))) Xak)))) (Xab (Xbj Xar Xag Xae) Xak))))),?_⟩)
 rintro ds Pr ⟨f,l,r,rfl,ok,k⟩
 have h1:=ok.l
 have h2:=ok.r
 have h3:=ok.s
 simp only[lfD]
 fin2
 refine⟨l,f.l,rfl,⟨by omega,by omega⟩,r,f.r,rfl,⟨by omega,by omega⟩,tmS l f.l,tmS r f.r,rfl,?_⟩
 fin2
 refine⟨_,(f.a,f.a),rfl,_,f.s,rfl,h3.1,?_⟩
 rw[Yda]at k
 exact k
abbrev Xfd:Stmt:=top 60
theorem Xcb:FnScope ["row","ladder","stride","things","lift","at","left","right"] ["row","ladder","stride"] (Xaf Xfd):=by walk_at "S"
def Xca:DSp:=λds P=>∃(xs:List Sp2) (fs:List Lf) (st:Int),ds=[sL xs,Xge fs,.int st]/\((∀f∈fs,f.Ok)/\0<st/\st<=64/\xs.length<=100000)/\P (sO (Xd7 (0,0) Xd2 fs st xs))
theorem Xmm {f:Addr}{fd:FuncData}(Df:DefAt K mg "lowered_spans" Xfd f fd)(B:BltV mg)(KV:KitV K)(Xk0:∃t,mg "HALF"=some (.int 0 t))(Xbt:Cal P w K mg base "lifted_places" 2 ["half","many","stride"] (spV K 3 Xbw))(Xvi:Cal P w K mg base "minus" 1 ["one","other"] (spV K 2 Xvw))(Xj2:Cal P w K mg base "gain_span" 2 ["lift","left","right"] (spV K 3 Xl4)):
  Cal P w K mg base "lowered_spans" 3 ["row","ladder","stride"] (spV K 3 Xca):=by
 refine CalV.of Df Xcb (by walk_at "b") rfl (λc A o s H E hr=>⟨_,_,(Xah (Xa9 (i:=3) Xcb.nd rfl (Or.inl rfl) (Xdz Xlx (by rfl) B.list PyProof.Rows.boot_list (Xaa (pv 0) Xad)))
   (Xah (Xcv PassesOwn.never rfl (Xnw rfl B.reversed (Xaa (pv 1) Xad)) (Xau (i:=4) Xcb.nd rfl (Or.inl rfl)) (Xal (Xcv PassesOwn.never rfl (Xdw (Xa0 Xbt (hr.mono (by decide)) (by rfl) (Xaa (Xax Xas (pv 4) (Xao (by rfl) Xk0) (λ_ _=>rfl)) (Xaa (Xay Xa2 (by rfl) B.len boot_len (Xaa (pv 0) Xad)) (Xaa (pv 2) Xad))))) (Xgl (n:=3) rfl (Xbc (Xau (i:=5) Xcb.nd rfl (Or.inl rfl)) (Xbc (Xau (i:=6) Xcb.nd rfl (Or.inl rfl)) (Xbc (Xau (i:=7) Xcb.nd rfl (Or.inl rfl)) Xeg)))) (Xal (Xnv (Xa0 Xvi (hr.mono (by decide)) (by rfl) (Xaa (Xax Xbr (pv 3) (pv 5) (λ_ _=>rfl)) (Xaa (Xa0 Xj2 (hr.mono (by decide)) (by rfl) (Xaa (pv 4) (Xaa (Xax Xbr (pv 3) (pv 6) (λ_ _=>rfl)) (Xaa (Xax Xbr (pv 3) (pv 7) (λ_ _=>rfl)) Xad)))) Xad))) (Xwd (pv 3) (pv 5) Xi1))))))
   (Xal (Xa1 (pv 3))))),
  (Xam (Xa8 (Yc6 Xvk (Xab Xag Xak)))
   (Xam (Xcu (Yfe (Xab Xag Xak)) Xav (Xcu (Xed (Xb4 (Xat (Xab (Xbj Xar Xag Xae) (Xab (Xb0 Xcx (Xai Xac Xan)) (Xab Xag Xak)))))) (Xgk (Xbb Xav (Xbb Xav (Xbb Xav Xee)))) (Ye8 (Xeq (Xai (Xbe (OpF.b Xch) Xac Xac) (Xai (Xap (Xb4 (Xeq (Xai Xac (Xai (Xbe (OpF.b Xch) Xac Xac) (Xai (Xbe (OpF.b Xch) Xac Xac) Xan)))))) Xan))) Xac)))
   Xfh)),?_⟩)
 rintro ds Pr ⟨xs,fs,st,rfl,⟨oks,s0,s1,hx⟩,k⟩
 simp only[sL,Xge]
 fin2
 simp only[Yis]
 refine⟨λi M=>∃o1 o2 o3 o4,M=[vD (sL xs),vD (Xge fs),vI st,some (.own (sO (Xga (0,0) Xd2 fs i st xs))),o1,o2,o3,o4],⟨none,none,none,none,by simp[sL,Xge,sO,Xtg]⟩,?_,?_⟩
 .rintro i d M hd ⟨o1,o2,o3,o4,rfl⟩
  rw[<- map_reverse]at hd
  obtain⟨f,hf,rfl⟩:=Xs6 hd
  have hil:i<fs.length:=by
   have:=(List.getElem?_eq_some_iff.mp hf).1
   rwa[length_reverse]at this
  rw[getElem?_reverse hil]at hf
  have okf:=oks f (mem_of_getElem? hf)
  have hlen:(Xga (0,0) Xd2 fs i st xs).length=xs.length:=Xu6
  dsimp only
  rw[Xth hil hf]
  generalize hc:Xga (0,0) Xd2 fs i st xs=cur at hlen
  simp only[sL,Xge,sO,lfD]
  fin2
  simp only[Xbw]
  refine⟨⟨okf.h,s0,s1,by omega,by omega⟩,?_⟩
  fin2
  simp only[map_map,Function.comp_def,OV.val]
  rw[<- hlen]
  refine⟨λj M=>∃o2 o3 o4,M=[vD (sL xs),vD (Xge fs),vI st,some (.own (sO (((Xd6 f.h cur.length st).take j).foldl (Xtf (0,0) (Xd2 f) st) cur))),vD (lfD f),o2,o3,o4],⟨_,_,_,rfl⟩,?_,?_⟩
  .rintro j e M he ⟨p2,p3,p4,rfl⟩
   obtain⟨t,ht,rfl⟩:=Xs6 he
   have htm:t∈Xd6 f.h cur.length st:=mem_of_getElem? ht
   obtain⟨hjt,htt⟩:=List.getElem?_eq_some_iff.mp ht
   obtain⟨b0,b1,b2,_⟩:=Xq5 s0 okf.h htm
   have hla:=(Ynf (z:=((0,0):Sp2)) (G:=Xd2 f) (h:=f.h) (st:=st) (xs:=cur) s0 okf.h j).1
   have etake:(Xd6 f.h cur.length st).take (j+1)=(Xd6 f.h cur.length st).take j++[t]:=by
    rw[take_succ_eq_append_getElem hjt,htt]
   dsimp only
   rw[etake,foldl_append]
   generalize hw:((Xd6 f.h cur.length st).take j).foldl (Xtf (0,0) (Xd2 f) st) cur=wcur at hla
   simp only[sL,Xge,sO,plD,lfD]
   fin2
   simp only[Xt0]
   refine⟨_,Xro (0,0) b0.1 (by (clear hx hil hlen htt;omega)),_,Xro (0,0) b1.1 (by (clear hx hil hlen htt;omega)),_,Xro (0,0) b2.1 (by (clear hx hil hlen htt;omega)),f,_,_,rfl,okf,?_⟩
   simp only[OV.lf,Ybb,true_and]
   fin2
   refine⟨_,_,rfl,?_⟩
   simp only[OV.lf,Ybb,true_and]
   refine⟨_,Xwt b0.1 (by (clear hx hil hlen htt;omega)),?_⟩
   rw[Ycw (g:=λs=>OV.fz (spD s))]
   simp only[foldl_cons,foldl_nil,Xtf,Xk1,hla,Xd2]
   exact⟨_,_,_,rfl⟩
  .rintro M ⟨p2,p3,p4,rfl⟩
   rw[length_map,take_length]
   exact⟨_,_,_,_,rfl⟩
 .rintro M ⟨o1,o2,o3,o4,rfl⟩
  fin2
  rw[length_reverse,length_map,Xu7]
  exact k
abbrev Xu9:DTb:=[("raised",Xfc),("lowered",Xe7),("lowered_spans",Xca)]
section SH
variable {α β:Type}
def tab (n:Nat)(f:Nat->β):List β:=(List.range n).map f
theorem Xa7 {n:Nat}{f:Nat->β}:(tab n f).length=n:=by simp[tab]
theorem Xf2 {n i:Nat}{f:Nat->β}(h:i<n):(tab n f)[i]?=some (f i):=by simp[tab,h]
theorem Xez {n i:Nat}{f:Nat->β}{d:β}(h:i<n):(tab n f).getD i d=f i:=by simp[tab,h]
theorem Xcy {n:Nat}{f g:Nat->β}(h:∀i,i<n->f i=g i):tab n f=tab n g:=map_congr_left λi hi=>h i (mem_range.mp hi)
theorem Xgu {γ:Type}{n:Nat}{f:Nat->β}{g:β->γ}:(tab n f).map g=tab n λi=>g (f i):=by simp[tab,Function.comp_def]
theorem Ycq (z:α)(xs:List α):tab xs.length (λi=>xs.getD i z)=xs:=by
 refine Ybu z (by rw[Xa7]) λp hp=>?_
 rw[Xa7]at hp
 rw[Xez hp]
theorem Xm6 (z:α){n:Nat}{xs:List α}(h:xs.length=n):tab n (λi=>xs.getD i z)=xs:=by subst h;exact Ycq z xs
theorem Xm5 {n i:Nat}{f:Nat->β}{v:β}:(tab n f).set i v=tab n λj=>if j=i then v else f j:=by
 refine ext_getElem? λj=>?_
 rw[getElem?_set,Xa7]
 by_cases hj:j<n
 .rw [Xf2 hj,Xf2 hj]
  by_cases e:i=j
  .subst e;simp[hj]
  .rw [if_neg e,if_neg λz=>e z.symm]
 .have e1:(tab n f)[j]?=none:=getElem?_eq_none (by rw[Xa7];omega)
  have e2:(tab n λj=>if j=i then v else f j)[j]?=none:=getElem?_eq_none (by rw[Xa7];omega)
  rw[e1,e2]
  split
  .rw [if_neg (by omega)]
  .rfl
theorem Xl0 {n:Nat}{f:Nat->D}{i:Int}(h0:0<=i)(h:i<n):atI (tab n f) i=some (f i.toNat):=by
 have e:=Xhp (xs:=tab n f) (j:=i.toNat) (Xf2 (show i.toNat<n by omega))
 rwa[show ((i.toNat:Nat):Int)=i by omega]at e
def Xpm (z:α)(op:List α->List α)(w st:Nat)(e:Nat->Nat->α):Nat->Nat->α:=λi j=>if i%st=0 then (op (tab w (e i))).getD j z else e i j
def Xp5 (z:α)(op:List α->List α)(h st:Nat)(e:Nat->Nat->α):Nat->Nat->α:=λi j=>if j%st=0 then (op (tab h λi=>e i j)).getD i z else e i j
def eqS (h w:Nat)(e e':Nat->Nat->α):Prop:=∀i j,i<h->j<w->e i j=e' i j
theorem Xmw {z:α}{op:List α->List α}{h w st:Nat}{e e':Nat->Nat->α}(q:eqS h w e e'):eqS h w (Xpm z op w st e) (Xpm z op w st e'):=λi j hi hj=>by
 unfold Xpm
 rw[Xcy (λj hj=>q i j hi hj),q i j hi hj]
theorem Xmx {z:α}{op:List α->List α}{h w st:Nat}{e e':Nat->Nat->α}(q:eqS h w e e'):eqS h w (Xp5 z op h st e) (Xp5 z op h st e'):=λi j hi hj=>by
 unfold Xp5
 rw[Xcy (λi hi=>q i j hi hj),q i j hi hj]
theorem Xsh {z:α}{op op':List α->List α}{h w st:Nat}{e:Nat->Nat->α}(hl:∀r:List α,r.length=w->(op r).length=w)(hb:∀r:List α,r.length=w->op' (op r)=r):eqS h w (Xpm z op' w st (Xpm z op w st e)) e:=λi j hi hj=>by
 unfold Xpm
 by_cases q:i%st=0
 .simp only[q,if_true]
  rw[Xm6 z (hl _ Xa7),hb _ Xa7,Xez hj]
 .simp only[q,if_false]
theorem Xto {z:α}{op op':List α->List α}{h w st:Nat}{e:Nat->Nat->α}(hl:∀r:List α,r.length=h->(op r).length=h)(hb:∀r:List α,r.length=h->op' (op r)=r):eqS h w (Xp5 z op' h st (Xp5 z op h st e)) e:=λi j hi hj=>by
 unfold Xp5
 by_cases q:j%st=0
 .simp only[q,if_true]
  rw[Xm6 z (hl _ Xa7),hb _ Xa7,Xez hi]
 .simp only[q,if_false]
theorem eqS.trans {h w:Nat}{a b c:Nat->Nat->α}(x:eqS h w a b)(y:eqS h w b c):eqS h w a c:=λi j hi hj=>(x i j hi hj).trans (y i j hi hj)
theorem eqS.refl {h w:Nat}{a:Nat->Nat->α}:eqS h w a a:=λ_ _ _ _=>rfl
def Xrr (z:α)(op:Nat->List α->List α)(h w:Nat):Nat->(Nat->Nat->α)->Nat->Nat->α
 | 0,e=>e
 |n+1,e=>Xp5 z (op n) h (2^n) (Xpm z (op n) w (2^n) (Xrr z op h w n e))
def Xdq (z:α)(op:Nat->List α->List α)(h w:Nat):Nat->Nat->(Nat->Nat->α)->Nat->Nat->α
 | 0,_,e=>e
 |n+1,d,e=>if d<=n then Xdq z op h w n d (Xpm z (op n) w (2^n) (Xp5 z (op n) h (2^n) e)) else e
theorem Xn0 {z:α}{op:Nat->List α->List α}{h w:Nat}:∀(n d:Nat) {e e':Nat->Nat->α},eqS h w e e'->eqS h w (Xdq z op h w n d e) (Xdq z op h w n d e')
 | 0,_,_,_,q=>q
 |n+1,d,e,e',q=>by
  unfold Xdq
  split
  .exact Xn0 n d (Xmw (Xmx q))
  .exact q
theorem Xwr {z:α}{op:Nat->List α->List α}{h w:Nat}:∀(n:Nat) {e e':Nat->Nat->α},eqS h w e e'->eqS h w (Xrr z op h w n e) (Xrr z op h w n e')
 | 0,_,_,q=>q
 |n+1,e,e',q=>Xmx (Xmw (Xwr n q))
theorem Xwl {z:α}{up dn:Nat->List α->List α}{h w:Nat}(hl:∀k (r:List α),(up k r).length=r.length)(hb:∀k (r:List α),dn k (up k r)=r):
  ∀(n d:Nat) (e:Nat->Nat->α),d<=n->eqS h w (Xdq z dn h w n d (Xrr z up h w n e)) (Xrr z up h w d e)
 | 0,d,e,hd=>by
  have:d=0:=by omega
  subst this
  exact eqS.refl
 |n + 1,d,e,hd=>by
  unfold Xdq
  by_cases q:d<=n
  .rw [if_pos q]
   refine (Xn0 n d ?_).trans (Xwl hl hb n d e q)
   show eqS h w (Xpm z (dn n) w (2^n) (Xp5 z (dn n) h (2^n) (Xp5 z (up n) h (2^n) (Xpm z (up n) w (2^n) (Xrr z up h w n e))))) _
   exact (Xmw (Xto (λr hr=>by rw[hl];exact hr) (λr _=>hb n r))).trans (Xsh (λr hr=>by rw[hl];exact hr) (λr _=>hb n r))
  .rw [if_neg q]
   have:d=n+1:=by omega
   subst this
   exact eqS.refl
theorem Xwq {z:α}{up dn:Nat->List α->List α}{h w:Nat}(hl:∀k (r:List α),(dn k r).length=r.length)(hb:∀k (r:List α),up k (dn k r)=r):
  ∀(n:Nat) (e:Nat->Nat->α),eqS h w (Xrr z up h w n (Xdq z dn h w n 0 e)) e
 | 0,e=>eqS.refl
 |n + 1,e=>by
  show eqS h w (Xp5 z (up n) h (2^n) (Xpm z (up n) w (2^n) (Xrr z up h w n (Xdq z dn h w (n+1) 0 e)))) e
  have e1:Xdq z dn h w (n+1) 0 e=Xdq z dn h w n 0 (Xpm z (dn n) w (2^n) (Xp5 z (dn n) h (2^n) e)):=by
   show (if 0<=n then _ else _)=_
   rw[if_pos (zero_le _)]
  rw[e1]
  refine (Xmx (Xmw (Xwq hl hb n _))).trans ?_
  exact (Xmx (Xsh (λr hr=>by rw[hl];exact hr) (λr _=>hb n r))).trans (Xto (λr hr=>by rw[hl];exact hr) (λr _=>hb n r))
end SH
def shT {α:Type}(g:α->D)(h w:Nat)(e:Nat->Nat->α):List OV:=tab h λi=>.nl (tab w λj=>.fz (g (e i j)))
def shV {α:Type}(g:α->D)(h w:Nat)(e:Nat->Nat->α):List D:=tab h λi=>.lst (tab w λj=>g (e i j))
theorem Xdf {α:Type}{g:α->D}{h w:Nat}{e:Nat->Nat->α}:(shT g h w e).map OV.val=shV g h w e:=by
 unfold shT shV
 rw[Xgu]
 refine Xcy λi _=>?_
 simp only[OV.val,OV.vals_eq,Xgu]
theorem Xng {α:Type}{g:α->D}{h w:Nat}{e e':Nat->Nat->α}(q:eqS h w e e'):shT g h w e=shT g h w e':=by
 unfold shT
 exact Xcy λi hi=>by rw[Xcy λj hj=>by rw[q i j hi hj]]
structure OpOk (α:Type) (z:α) (g:α->D) (op:List α->List α) (n:Nat) (st:Nat) (lad:D) (sp:DSp):Prop where
 run:∀r:List α,r.length=n->∀Q:OV->Prop,Q (.nl ((op r).map λx=>.fz (g x)))->sp [.lst (r.map g),lad,.int st] Q
 len:∀r:List α,r.length=n->(op r).length=n
 off:∀(r:List α) (i:Nat),r.length=n->i<n->i%st≠0->(op r).getD i z=r.getD i z
 lf:∀x,(g x).lf=true
abbrev Xg9:Stmt:=top 65
theorem Xjh:FnScope ["sheet","doing","ladder","stride","i"] ["sheet","doing","ladder","stride"] (Xaf Xg9):=by walk_at "S"
def Xf4:DIO:=λts ds P=>∃(α:Type) (z:α) (g:α->D) (op:List α->List α) (x:Str) (sp:DSp) (lad:D) (h w st:Nat) (e:Nat->Nat->α),ts=shT g h w e/\ds=[.fn x,lad,.int st]/\(x,sp)∈Xu9/\OpOk α z g op w st lad sp/\0<st/\st<=64/\h<=1000/\P (shT g h w (Xpm z op w st e))
theorem Yky {α:Type}{g:α->D}(hg:∀x,(g x).lf=true)(xs:List α):OV.lf (.nl (xs.map λx=>.fz (g x)))=true:=by
 simp[OV.lf,OV.lfs_eq,hg]
theorem Xm9 {h st:Nat}(s0:0<st){n:Nat}(hn:n<Xhs 0 h st):n*st<h:=by
 have:=(Xnr (lo:=0) (hi:=h) (c:=st) (by omega) n).mp hn
 rw[zero_add]at this
 exact_mod_cast this
theorem Xqb {h st i:Nat}(s0:0<st)(hi:i<h)(hm:i%st=0):i<Xhs 0 h st*st:=by
 rcases lt_or_ge i (Xhs 0 h st*st) with q |q
 .exact q
 .exfalso
  have e:i=i / st*st:=by
   have:=Nat.div_add_mod i st
   rw[hm,add_zero,Nat.mul_comm]at this
   exact this.symm
  have h1:Xhs 0 h st<=i / st:=by
   rw[Nat.le_div_iff_mul_le s0];exact q
  have h2:¬ (Xhs 0 h st<Xhs 0 h st):=lt_irrefl _
  apply h2
  rw[Xnr (by omega)]
  have h3:Xhs 0 h st*st<=i / st*st:=Nat.mul_le_mul_right _ h1
  have h4:Xhs 0 h st*st<h:=by omega
  have:((Xhs 0 h st*st:Nat):Int)<h:=by exact_mod_cast h4
  rw[zero_add]
  exact_mod_cast this
theorem Xz3 {h st:Nat}(s0:0<st):Xhs 0 h st<=h:=by
 rcases lt_or_ge h (Xhs 0 h st) with q |q
 .have:=Xm9 s0 q
  have h2:h*1<=h*st:=mul_le_mul_left _ s0
  omega
 .exact q
theorem Xo6 {f:Addr}{fd:FuncData}(Df:DefAt K mg "change_rows" Xg9 f fd)(B:BltV mg)(KV:KitV K)(Xde:Xtz K mg "raised")(Xda:Xtz K mg "lowered")(Xbm:Xtz K mg "lowered_spans")(Xi5:Cal P w K mg base "raised" 3 ["row","ladder","stride"] (spV K 3 Xfc))(Xgr:Cal P w K mg base "lowered" 3 ["row","ladder","stride"] (spV K 3 Xe7))(Xcj:Cal P w K mg base "lowered_spans" 3 ["row","ladder","stride"] (spV K 3 Xca)):
  Cal P w K mg base "change_rows" 4 ["sheet","doing","ladder","stride"] (Ycs K 4 Xf4):=by
 refine CalIO.of Df Xjh (by walk_at "b") rfl (λc A o s H E hr=>⟨_,_,(Xal (Xcv PassesOwn.never rfl (Xii (by rfl) (by exact B.range) (Xaa Xaj (Xaa (Xay Xa2 (by rfl) B.len boot_len (Xaa (pv 0) Xad)) (Xaa (pv 3) Xad)))) (Xau (i:=4) Xjh.nd rfl (Or.inl rfl)) (Xal (Xnv (Yal (pv 1) (Xyw (K:=K) (n:=3) (tb:=Xu9) (k:=3) (by simp only[Xu9,forall_mem_cons];exact⟨⟨_,Xi5.mono (by decide)⟩,⟨_,Xgr.mono (by decide)⟩,⟨_,Xcj.mono (by decide)⟩,λ_ h=>by cases h⟩)) (hr.mono (by decide)) (Xaa (Xax Xbr (pv 0) (pv 4) (λ_ _=>rfl)) (Xaa (pv 2) (Xaa (pv 3) Xad)))) (Xwd (pv 0) (pv 4) Xi1))))),
  (Xcu (Xnq (Xai (Xap Xae) (Xai (Xap (Xb0 Xcx (Xai Xac Xan))) (Xai Xac Xan)))) Xav (Ye7 (i:=0) Yba (Ye8 (Xzv (tb:=Xu9) (by simp only[Xu9,forall_mem_cons];exact⟨Xde,Xda,Xbm,λ_ h=>by cases h⟩) (Xai (Xbe (OpF.b Xch) Xac Xac) (Xai Xac (Xai Xac Xan)))) Xac))),?_⟩)
 rintro a ts ds Pr ⟨α,z,g,op,x,sp,lad,h,w,st,e,rfl,rfl,hm,ok,s0,s1,hh,k⟩
 fin2
 refine⟨⟨by omega,by rw[shT,Xa7];omega,by omega,by omega⟩,?_⟩
 rw[show ((shT g h w e).length:Int)=(h:Int) by rw[shT,Xa7]]
 refine⟨λn M=>n<=Xhs 0 h st/\∃o,M=[some (.own (.rt a (shT g h w λi j=>if i%st=0/\i<n*st then (op (tab w (e i))).getD j z else e i j))),vD (.fn x),vD lad,vI st,o],⟨zero_le _,none,?_⟩,?_,?_⟩
 .simp only[zero_mul,not_lt_zero,and_false,if_false]
 .rintro n d M hd ⟨hn,o,rfl⟩
  obtain⟨hi,rfl⟩:=Xfj hd
  have hlt:=Xm9 s0 hi
  have hnat:(0+(n:Int)*(st:Int))=((n*st:Nat):Int):=by rw[zero_add];exact_mod_cast rfl
  rw[hnat]
  fin2
  refine⟨sp,hm,?_⟩
  rw[Xdf]
  refine⟨_,Xl0 (by omega) (by exact_mod_cast hlt),?_⟩
  rw[show ((n*st:Nat):Int).toNat=n*st by omega]
  have er:(D.lst (tab w λj=>g (if (n*st)%st=0/\n*st<n*st then (op (tab w (e (n*st)))).getD j z else e (n*st) j))) = .lst ((tab w (e (n*st))).map g):=by
   rw[Xgu]
   simp only[lt_irrefl,and_false,if_false]
  rw[er]
  try fin2
  refine ok.run _ Xa7 _ ?_
  refine⟨Yky ok.lf _,n*st,?_,?_⟩
  .rw [shT,Xa7]
   have:=Xwt (n:=h) (i:=((n*st:Nat):Int)) (by omega) (by exact_mod_cast hlt)
   rwa[show ((n*st:Nat):Int).toNat=n*st by omega]at this
  .try fin2
   refine⟨hi,some (.own (.fz (.int ((n*st:Nat):Int)))),?_⟩
   have es : (shT g h w λi j=>if i%st=0/\i<n*st then (op (tab w (e i))).getD j z else e i j).set (n*st) (.nl ((op (tab w (e (n*st)))).map λx=>.fz (g x)))=shT g h w λi j=>if i%st=0/\i<(n+1)*st then (op (tab w (e i))).getD j z else e i j:=by
    unfold shT
    rw[Xm5]
    refine Xcy λi hi'=>?_
    by_cases q:i=n*st
    .subst q
     rw[if_pos rfl]
     have e1:∀j,(if (n*st)%st=0/\n*st<(n+1)*st then (op (tab w (e (n*st)))).getD j z else e (n*st) j)=(op (tab w (e (n*st)))).getD j z:=λj=>if_pos ⟨mul_mod_left _ _,by rw[Nat.add_mul];omega⟩
     simp only[e1]
     congr 1
     rw[<- Xgu (f:=λj=>(op (tab w (e (n*st)))).getD j z) (g:=λx=>OV.fz (g x)),Xm6 z (ok.len _ Xa7)]
    .rw [if_neg q]
     congr 1
     refine Xcy λj _=>?_
     have:(i%st=0/\i<n*st)↔(i%st=0/\i<(n+1)*st):=by
      constructor
      .rintro ⟨q1,q2⟩
       exact⟨q1,by rw[Nat.add_mul];omega⟩
      .rintro ⟨q1,q2⟩
       refine⟨q1,?_⟩
       have e2:i=i / st*st:=by
        have:=Nat.div_add_mod i st
        rw[q1,add_zero,Nat.mul_comm]at this
        exact this.symm
       have e3:i / st<n+1:=by rw[Nat.div_lt_iff_lt_mul s0];exact q2
       rcases lt_or_ge (i / st) n with y |y
       .have:(i / st+1)*st<=n*st:=Nat.mul_le_mul_right _ y
        rw[Nat.add_mul]at this
        omega
       .have:i / st=n:=by omega
        rw[this]at e2
        exact absurd e2 q
     dsimp only
     by_cases y:i%st=0/\i<n*st
     .rw [if_pos y,if_pos (this.mp y)]
     .rw [if_neg y,if_neg λy'=>y (this.mpr y')]
   rw[es]
 .rintro M ⟨_,o,rfl⟩
  rw[Xdu]
  refine⟨_,rfl,?_⟩
  rw[Xng (e':=Xpm z op w st e)]
  .exact k
  .intro i j hi hj
   show (if i%st=0/\i<Xhs 0 h st*st then _ else _)=if i%st=0 then _ else _
   by_cases q:i%st=0
   .rw [if_pos ⟨q,Xqb s0 hi q⟩,if_pos q]
   .rw [if_neg λy=>q y.1,if_neg q]
abbrev Xdc:Stmt:=top 66
theorem Xcz:FnScope ["sheet","doing","ladder","stride","j","column","i"] ["sheet","doing","ladder","stride"] (Xaf Xdc):=by walk_at "S"
def Xd8:DIO:=λts ds P=>∃(α:Type) (z:α) (g:α->D) (op:List α->List α) (x:Str) (sp:DSp) (lad:D) (h w st:Nat) (e:Nat->Nat->α),ts=shT g h w e/\ds=[.fn x,lad,.int st]/\(x,sp)∈Xu9/\OpOk α z g op h st lad sp/\0<st/\st<=64/\0<h/\h<=1000/\w<=1000/\P (shT g h w (Xp5 z op h st e))
theorem Xn6 {i st n:Nat}(s0:0<st)(q1:i%st=0)(hne:i≠n*st):i<n*st↔i<(n+1)*st:=by
 constructor
 .intro y
  rw[Nat.add_mul];omega
 .intro q2
  have e2:i=i / st*st:=by
   have:=Nat.div_add_mod i st
   rw[q1,add_zero,Nat.mul_comm]at this
   exact this.symm
  have e3:i / st<n+1:=by rw[Nat.div_lt_iff_lt_mul s0];exact q2
  rcases lt_or_ge (i / st) n with y |y
  .have:(i / st+1)*st<=n*st:=Nat.mul_le_mul_right _ y
   rw[Nat.add_mul]at this
   omega
  .have:i / st=n:=by omega
   rw[this]at e2
   exact absurd e2 hne
theorem Xlp {f:Addr}{fd:FuncData}(Df:DefAt K mg "change_columns" Xdc f fd)(B:BltV mg)(KV:KitV K)(Xde:Xtz K mg "raised")(Xda:Xtz K mg "lowered")(Xbm:Xtz K mg "lowered_spans")(Xi5:Cal P w K mg base "raised" 3 ["row","ladder","stride"] (spV K 3 Xfc))(Xgr:Cal P w K mg base "lowered" 3 ["row","ladder","stride"] (spV K 3 Xe7))(Xcj:Cal P w K mg base "lowered_spans" 3 ["row","ladder","stride"] (spV K 3 Xca)):
  Cal P w K mg base "change_columns" 4 ["sheet","doing","ladder","stride"] (Ycs K 4 Xd8):=by
 refine CalIO.of Df Xcz (by walk_at "b") rfl (λc A o s H E hr=>⟨_,_,(Xal (Xcv PassesOwn.never rfl (Xii (by rfl) (by exact B.range) (Xaa Xaj (Xaa (Xay Xa2 (by rfl) B.len boot_len (Xaa (Xax Xbr (pv 0) Xaj (λ_ _=>rfl)) Xad)) (Xaa (pv 3) Xad)))) (Xau (i:=4) Xcz.nd rfl (Or.inr rfl)) (Xah (Xa9 (i:=5) Xcz.nd rfl (Or.inl rfl) (Yal (pv 1) (Xyw (K:=K) (n:=3) (tb:=Xu9) (k:=3) (by simp only[Xu9,forall_mem_cons];exact⟨⟨_,Xi5.mono (by decide)⟩,⟨_,Xgr.mono (by decide)⟩,⟨_,Xcj.mono (by decide)⟩,λ_ h=>by cases h⟩)) (hr.mono (by decide)) (Xaa (Xdy rfl (Xdw (pv 0)) (show BlkScope (Xaf Xdc) _ from⟨rfl,by decide +kernel,by decide +kernel,by decide +kernel⟩) (N:=["row","j"]) (ix:=[none,some 4]) (show Xd1 _ _ _ _ from⟨⟨rfl,rfl,.inl rfl⟩,trivial⟩) (λ_ _ _=>(Xau (i:=0) (show List.Nodup (["row","j"]:List Str) by decide +kernel) rfl (Or.inl rfl))) (λ_ _ _=>(Xax Xbr (pv 0) (pv 1) (λ_ _=>rfl)))) (Xaa (pv 2) (Xaa (pv 3) Xad)))))
   (Xal (Xcv PassesOwn.never rfl (Xii (by rfl) (by exact B.range) (Xaa Xaj (Xaa (Xay Xa2 (by rfl) B.len boot_len (Xaa (pv 0) Xad)) (Xaa (pv 3) Xad)))) (Xau (i:=6) Xcz.nd rfl (Or.inl rfl)) (Xal (Xnv (Xax Xbr (pv 5) (pv 6) (λ_ _=>rfl)) (Xwd (Xax Xbr (pv 0) (pv 6) (λ_ _=>rfl)) (pv 4) Xi1)))))))),
  (Xcu (Xnq (Xai (Xap Xae) (Xai (Xap (Xb0 Xcx (Xai (Xbe (OpF.b Xch) Xac (Xap Xae)) Xan))) (Xai Xac Xan)))) Xav (Xam (Xa8 (Xbk (Xb4 (Yc7 (tb:=Xu9) (by simp only[Xu9,forall_mem_cons];exact⟨Xde,Xda,Xbm,λ_ h=>by cases h⟩) (Xab (Xb4 (Yc5 Xac (Xbk (Ydc (Xbe (OpF.b Xch) Xac Xac))))) (Xab Xag (Xab Xag Xak)))))))
   (Xcu (Xnq (Xai (Xap Xae) (Xai (Xap (Xb0 Xcx (Xai Xac Xan))) (Xai Xac Xan)))) Xav (Ye7 (i:=0) Yba (Xzo (Xbj Xch Xag Xag) Xac Xac))))),?_⟩)
 rintro a ts ds Pr ⟨α,z,g,op,x,sp,lad,h,w,st,e,rfl,rfl,hm,ok,s0,s1,h0,hh,hw,k⟩
 fin2
 rw[Xdf]
 refine⟨_,Xl0 (by omega) (by omega),?_⟩
 fin2
 rw[Xa7]
 refine⟨⟨by omega,by omega,by omega,by omega⟩,?_⟩
 refine⟨λn M=>n<=Xhs 0 w st/\∃o1 o2 o3,M=[some (.own (.rt a (shT g h w λi j=>if j%st=0/\j<n*st then (op (tab h λi=>e i j)).getD i z else e i j))),vD (.fn x),vD lad,vI st,o1,o2,o3],⟨zero_le _,none,none,none,?_⟩,?_,?_⟩
 .simp only[zero_mul,not_lt_zero,and_false,if_false]
 .rintro n d M hd ⟨hn,o1,o2,o3,rfl⟩
  obtain⟨hi,rfl⟩:=Xfj hd
  have hlt:=Xm9 s0 hi
  have hnat:(0+(n:Int)*(st:Int))=((n*st:Nat):Int):=by rw[zero_add];exact_mod_cast rfl
  rw[hnat]
  generalize hj:n*st=j at hlt
  fin2
  refine⟨sp,hm,?_⟩
  rw[Xdf]
  refine Xme.mapB (List.range h) _ (λi=>.fz (g (e i j))) (by rw[length_range];omega) (λi hi' Q q=>?_) ?_
  .have hi'':=mem_range.mp hi'
   fin2
   refine⟨_,Xl0 (by omega) (by exact_mod_cast hlt),?_⟩
   rw[show ((j:Nat):Int).toNat=j by omega,if_neg λy=>by omega]
   exact⟨ok.lf _,q⟩
  .have e1 : (List.range h).map (λi=>OV.fz (g (e i j)))=(tab h λi=>e i j).map λx=>OV.fz (g x):=by rw[Xgu];rfl
   rw[e1]
   fin2
   simp only[Xt0]
   refine ok.run _ Xa7 _ ?_
   generalize hcc:tab h (λi=>e i j)=c
   have hcl:c.length=h:=by rw[<- hcc];exact Xa7
   have hol:=ok.len c hcl
   fin2
   simp only[Xt0]
   refine⟨⟨by omega,by rw[shT,Xa7];omega,by omega,by omega⟩,?_⟩
   rw[show ((shT g h w λi j'=>if j'%st=0/\j'<j then (op (tab h λi=>e i j')).getD i z else e i j').length:Int)=(h:Int) by rw[shT,Xa7]]
   refine⟨λm M=>∃o3,M=[some (.own (.rt a (shT g h w λi j'=>if j'=j/\i%st=0/\i<m*st then (op c).getD i z else if j'%st=0/\j'<j then (op (tab h λi=>e i j')).getD i z else e i j'))),vD (.fn x),vD lad,vI st,vI j,vD (.lst ((op c).map g)),o3],⟨o3,?_⟩,?_,?_⟩
   .simp only[zero_mul,not_lt_zero,and_false,if_false]
   .rintro m d M hd' ⟨p3,rfl⟩
    obtain⟨hm',rfl⟩:=Xfj hd'
    have hlt':=Xm9 s0 hm'
    have hnat':(0+(m:Int)*(st:Int))=((m*st:Nat):Int):=by rw[zero_add];exact_mod_cast rfl
    rw[hnat']
    generalize hi0:m*st=i at hlt'
    fin2
    refine⟨_,Xro z (by omega) (by rw[hol];exact_mod_cast hlt'),?_⟩
    rw[show ((i:Nat):Int).toNat=i by omega]
    refine⟨i,_,?_,Xf2 hlt',j,?_,?_⟩
    .rw [shT,Xa7]
     have:=Xwt (n:=h) (i:=((i:Nat):Int)) (by omega) (by exact_mod_cast hlt')
     rwa[show ((i:Nat):Int).toNat=i by omega]at this
    .rw [Xa7]
     have:=Xwt (n:=w) (i:=((j:Nat):Int)) (by omega) (by exact_mod_cast hlt)
     rwa[show ((j:Nat):Int).toNat=j by omega]at this
    .try fin2
     refine⟨vI ((i:Nat):Int),?_⟩
     have es:(shT g h w λi j'=>if j'=j/\i%st=0/\i<m*st then (op c).getD i z else if j'%st=0/\j'<j then (op (tab h λi=>e i j')).getD i z else e i j').set i (.nl ((tab w λj'=>OV.fz (g (if j'=j/\i%st=0/\i<m*st then (op c).getD i z else if j'%st=0/\j'<j then (op (tab h λi=>e i j')).getD i z else e i j'))).set j (.fz (g ((op c).getD i z))))) =
       shT g h w λi j'=>if j'=j/\i%st=0/\i<(m+1)*st then (op c).getD i z else if j'%st=0/\j'<j then (op (tab h λi=>e i j')).getD i z else e i j':=by
      unfold shT
      rw[Xm5]
      refine Xcy λi' hi'=>?_
      by_cases q:i'=i
      .subst q
       rw[if_pos rfl,Xm5]
       congr 1
       refine Xcy λj' hj'=>?_
       dsimp only
       by_cases y:j'=j
       .subst y
        rw[if_pos rfl,if_pos ⟨rfl,by rw[<- hi0];exact mul_mod_left _ _,by rw[<- hi0,Nat.add_mul];omega⟩]
       .simp only[y,false_and,if_false]
      .rw [if_neg q]
       congr 1
       refine Xcy λj' hj'=>?_
       dsimp only
       by_cases y:j'=j/\i'%st=0
       .have hne:i'≠m*st:=by rw[hi0];exact q
        have:=Xn6 (n:=m) s0 y.2 hne
        by_cases y2:i'<m*st
        .rw [if_pos ⟨y.1,y.2,y2⟩,if_pos ⟨y.1,y.2,this.mp y2⟩]
        .rw [if_neg (show ¬ (j'=j/\i'%st=0/\i'<m*st) from λy'=>y2 y'.2.2),if_neg (show ¬ (j'=j/\i'%st=0/\i'<(m+1)*st) from λy'=>y2 (this.mpr y'.2.2))]
       .rw [if_neg (show ¬ (j'=j/\i'%st=0/\i'<m*st) from λy'=>y ⟨y'.1,y'.2.1⟩),if_neg (show ¬ (j'=j/\i'%st=0/\i'<(m+1)*st) from λy'=>y ⟨y'.1,y'.2.1⟩)]
     simp only[hi0]at es
     rw[es]
   .rintro M ⟨p3,rfl⟩
    rw[Xdu]
    refine⟨hi,vI j,vD (.lst ((op c).map g)),p3,?_⟩
    rw[Xng (e':=λi j=>if j%st=0/\j<(n+1)*st then (op (tab h λi=>e i j)).getD i z else e i j)]
    intro i j' hi' hj'
    dsimp only
    by_cases y:j'=j
    .subst y
     rw[hcc,if_pos (show j'%st=0/\j'<(n+1)*st from⟨by rw[<- hj];exact mul_mod_left _ _,by rw[<- hj,Nat.add_mul];omega⟩)]
     by_cases q:i%st=0
     .rw [if_pos ⟨rfl,q,Xqb s0 hi' q⟩]
     .rw [if_neg λy'=>q y'.2.1,if_neg (show ¬ (j'%st=0/\j'<j') from λy'=>by omega),ok.off c i hcl hi' q,<- hcc,Xez hi']
    .rw [if_neg λy'=>y y'.1]
     by_cases q:j'%st=0
     .have hne:j'≠n*st:=by rw[hj];exact y
      have:=Xn6 (n:=n) s0 q hne
      rw[hj]at this
      by_cases y2:j'<j
      .rw [if_pos ⟨q,y2⟩,if_pos ⟨q,this.mp y2⟩]
      .rw [if_neg λy'=>y2 y'.2,if_neg λy'=>y2 (this.mpr y'.2)]
     .rw [if_neg λy'=>q y'.1,if_neg λy'=>q y'.1]
 .rintro M ⟨_,o1,o2,o3,rfl⟩
  rw[Xdu]
  refine⟨_,rfl,?_⟩
  rw[Xng (e':=Xp5 z op h st e)]
  .exact k
  .intro i j hi hj
   show (if j%st=0/\j<Xhs 0 w st*st then _ else _)=if j%st=0 then _ else _
   by_cases q:j%st=0
   .rw [if_pos ⟨q,Xqb s0 hj q⟩,if_pos q]
   .rw [if_neg λy=>q y.1,if_neg q]
theorem Yjw (h st:Nat)(s0:0<st):sliceRange 0 h st=(List.range (Xhs 0 h st)).map λk=>k*st:=by
 unfold sliceRange Xhs Builtin.Range.rangeSize
 have hs:(st:Int) > 0:=by omega
 simp only[hs,if_true]
 by_cases hh:(0:Int)<h
 .simp only[hh,if_true]
  have e:((h:Int)-0+st-1) / st=((h:Int)-0-1) / st+1:=by
   rw[show (h:Int)-0+st-1=((h:Int)-0-1)+1*st by omega,Int.add_mul_ediv_right _ _ (by omega)]
  rw[e]
  refine map_congr_left λk _=>?_
  rw[zero_add,Int.mul_comm]
  exact_mod_cast rfl
 .simp only[hh,if_false]
  rfl
theorem Ybt {α β:Type}{f:α->Option β}{g:α->β}:∀{js:List α},(∀j∈js,f j=some (g j))->js.filterMap f=js.map g
 | [],_=>rfl
 |j::js,h=>by
  rw[filterMap_cons_some (h j mem_cons_self),Ybt λk hk=>h k (mem_cons_of_mem _ hk),map_cons]
theorem Xrw {β:Type}{h st:Nat}{f:Nat->β}(s0:0<st):Xqc (tab h f) st=tab (Xhs 0 h st) λk=>f (k*st):=by
 unfold Xqc
 rw[Xa7,Yjw h st s0]
 unfold tab
 rw[List.filterMap_map]
 refine Ybt λk hk=>?_
 exact Xf2 (Xm9 s0 (mem_range.mp hk))
theorem Xv8 {h:Nat}:Xhs 0 h (1:Nat)=h:=Xs4 λi=>by
 rw[Xnr (by decide)]
 simp
abbrev Xkg:Stmt:=top 71
theorem Xxi:FnScope ["sheet","k"] ["sheet","k"] (Xaf Xkg):=by walk_at "S"
def Xiz:DSp:=λds P=>∃(α:Type) (g:α->D) (h w k:Nat) (e:Nat->Nat->α),ds=[.lst (shV g h w e),.int k]/\k<=6/\h<=1000/\w<=1000/\P (.nl (shT g (Xhs 0 h (2^k:Nat)) (Xhs 0 w (2^k:Nat)) λi j=>e (i*2^k) (j*2^k)))
theorem Xxx {f:Addr}{fd:FuncData}(Df:DefAt K mg "thinned" Xkg f fd)(B:BltV mg)(KV:KitV K):
  Cal P w K mg base "thinned" 1 ["sheet","k"] (spV K 2 Xiz):=by
 refine CalV.of Df Xxi (by walk_at "b") rfl (λc A o s H E hr=>⟨_,_,(Xal (Xa1 (Xdy rfl (Xdw (Yaj (pv 0) (Xaw Xim Xaj (pv 1)))) (show BlkScope (Xaf Xkg) _ from⟨rfl,by decide +kernel,by decide +kernel,by decide +kernel⟩) (N:=["row","k"]) (ix:=[none,some 1]) (show Xd1 _ _ _ _ from⟨⟨rfl,rfl,.inl rfl⟩,trivial⟩) (λ_ _ _=>(Xau (i:=0) (show List.Nodup (["row","k"]:List Str) by decide +kernel) rfl (Or.inl rfl))) (λ_ _ _=>(Yaj (pv 0) (Xaw Xim Xaj (pv 1))))))),
  (Xa4 (Xc6 (Xed (Xb4 (Xzs Xag (Xap (Xaq Xdd (Xap Xae) Xac))))) Xav (Xzs Xag (Xap (Xaq Xdd (Xap Xae) Xac))))),?_⟩)
 rintro ds Pr ⟨α,g,h,w,k,e,rfl,k6,hh,hw,q⟩
 have hp:(1:Int)*2^((k:Int)).toNat=((2^k:Nat):Int):=by simp
 have hp0:0<2^k:=Nat.pow_pos (by decide)
 fin2
 rw[hp]
 refine⟨⟨by omega,by omega⟩,by exact_mod_cast hp0,?_⟩
 simp only[shV]
 rw[Xrw hp0]
 simp only[Xgu,OV.val]
 have hle:=Xz3 (h:=h) hp0
 refine Xme.map (List.range (Xhs 0 h (2^k:Nat))) (λi=>D.lst (tab w λj=>g (e (i*2^k) j))) (λi=>.nl (tab (Xhs 0 w (2^k:Nat)) λj=>.fz (g (e (i*2^k) (j*2^k))))) (by rw[length_range];omega) (λi hi Q q=>?_) ?_
 .fin2
  rw[hp]
  refine⟨⟨by omega,by omega⟩,by exact_mod_cast hp0,?_⟩
  rw[Xrw hp0,Xgu]
  exact q
 .exact q
theorem Ybo {α:Type}{z:α}{G:α->α->α->α}{h:Int}{st:Nat}{xs:List α}{p:Nat}(s0:0<st)(hh:h=0∨h=1)(hp:p%st≠0):(Xk2 z G h st xs).getD p z=xs.getD p z:=by
 rw[(Yir (z:=z) (G:=G) (h:=h) (st:=(st:Int)) (xs:=xs) (by omega) hh).2 p,if_neg]
 intro hm
 obtain⟨_,_,i,hi⟩:=(Xfk (show (0:Int)<st by omega)).mp hm
 apply hp
 rcases hh with rfl |rfl
 .have:p=i*2*st:=by
   have e:(p:Int)=((i*2*st:Nat):Int):=by rw[hi,Int.zero_mul,zero_add,<- mul_assoc];exact_mod_cast rfl
   exact_mod_cast e
  rw[this];exact mul_mod_left _ _
 .have:p=(1+i*2)*st:=by
   have e:(p:Int)=(((1+i*2)*st:Nat):Int):=by rw[hi,<- mul_assoc,<- Int.add_mul];exact_mod_cast rfl
   exact_mod_cast e
  rw[this];exact mul_mod_left _ _
theorem Xk3 {α:Type}{z:α}{G:Lf->α->α->α->α}{st:Nat}{p:Nat}(s0:0<st)(hp:p%st≠0):∀(gs:List Lf) (xs:List α),(∀f∈gs,f.Ok)->(gs.foldl (λxs f=>Xk2 z (G f) f.h st xs) xs).getD p z=xs.getD p z
 | [],_,_=>rfl
 |f::gs,xs,ok=>by
  rw[foldl_cons,Xk3 s0 hp gs _ λg hg=>ok g (mem_cons_of_mem _ hg)]
  exact Ybo s0 (ok f mem_cons_self).h hp
theorem Ydn {k:Nat}(h:k<=6):0<2^k/\2^k<=64:=⟨Nat.pow_pos (by decide),le_trans (pow_le_pow_right (by decide) h) (by decide)⟩
theorem Xt7 {α:Type}{g:α->D}{h w:Nat}{e:Nat->Nat->α}:shT g (Xhs 0 h (2^0:Nat)) (Xhs 0 w (2^0:Nat)) (λi j=>e (i*2^0) (j*2^0))=shT g h w e:=by
 rw[show (2^0:Nat)=1 by decide,Xv8,Xv8]
 simp only[Nat.mul_one]
theorem Xz8 {fs:List Lf}{st:Int}{xs:List Int}:Xbs fs st xs=fs.foldl (λxs f=>Xk2 0 ((λ(f:Lf) x l r=>x+1*Xls f l r) f) f.h st xs) xs:=rfl
theorem Xsl {fs:List Lf}{st n:Nat}(ok:∀f∈fs,f.Ok)(s0:0<st)(s1:st<=64)(hn:n<=1000):OpOk Int 0 D.int (Xbs fs st) n st (Xge fs) Xfc where
 run:=λr hr Q q=>⟨r,fs,st,rfl,⟨ok,by omega,by omega,by omega⟩,q⟩
 len:=λr hr=>by rw[Xz8,Xis];exact hr
 off:=λr i hr hi hm=>Xk3 (z:=(0:Int)) (G:=λ(f:Lf) x l r=>x+1*Xls f l r) s0 hm fs r ok
 lf:=λx=>rfl
theorem Xpx {fs:List Lf}{st n:Nat}(ok:∀f∈fs,f.Ok)(s0:0<st)(s1:st<=64)(hn:n<=1000):OpOk Int 0 D.int (Xcw fs st) n st (Xge fs) Xe7 where
 run:=λr hr Q q=>⟨r,fs,st,rfl,⟨ok,by omega,by omega,by omega⟩,q⟩
 len:=λr hr=>by rw[Ya8,Xlv];exact hr
 off:=λr i hr hi hm=>Xk3 (z:=(0:Int)) (G:=λ(f:Lf) x l r=>x+(-1)*Xls f l r) s0 hm fs.reverse r λf hf=>ok f (mem_reverse.mp hf)
 lf:=λx=>rfl
theorem Yao {α:Type}{z:α}{op:Nat->List α->List α}{h w:Nat}{e:Nat->Nat->α}:∀{n d:Nat},n<=d->Xdq z op h w n d e=e
 | 0,_,_=>rfl
 |n+1,d,hd=>by
  show (if d<=n then _ else e)=e
  rw[if_neg (by omega)]
abbrev Xjp:Stmt:=top 68
theorem Xh9:FnScope ["lowering","wave","ladder","levels","down","sheet","k"] ["lowering","wave","ladder","levels","down"] (Xaf Xjp):=by walk_at "S"
def Xh0:DSp:=λds P=>∃(α:Type) (z:α) (g:α->D) (op:Nat->List α->List α) (x:Str) (sp:DSp) (lad:D) (h w L d:Nat) (e:Nat->Nat->α),ds=[.fn x,.lst (shV g h w e),lad,.int L,.int d]/\(x,sp)∈Xu9/\(∀k,k<L->OpOk α z g (op k) w (2^k) lad sp/\OpOk α z g (op k) h (2^k) lad sp)/\L<=6/\d<=6/\0<h/\h<=1000/\w<=1000/\P (.nl (shT g h w (Xdq z op h w L d e)))
theorem Xsu {f:Addr}{fd:FuncData}(Df:DefAt K mg "opened_by" Xjp f fd)(B:BltV mg)(KV:KitV K)(Xd0:Cal P w K mg base "thinned" 1 ["sheet","k"] (spV K 2 Xiz))(Xcc:Cal P w K mg base "change_columns" 4 ["sheet","doing","ladder","stride"] (Ycs K 4 Xd8))(Xc1:Cal P w K mg base "change_rows" 4 ["sheet","doing","ladder","stride"] (Ycs K 4 Xf4)):
  Cal P w K mg base "opened_by" 5 ["lowering","wave","ladder","levels","down"] (spV K 5 Xh0):=by
 refine CalV.of Df Xh9 (by walk_at "b") rfl (λc A o s H E hr=>⟨_,_,(Xah (Xa9 (i:=5) Xh9.nd rfl (Or.inl rfl) (Xa0 Xd0 (hr.mono (by decide)) (by rfl) (Xaa (pv 1) (Xaa Xaj Xad))))
   (Xah (Xcv PassesOwn.never rfl (Yah rfl B.range (Xaa (Xaw Xdl (pv 3) Xaj) (Xaa (Xaw Xdl (pv 4) Xaj) (Xaa (Xss Xl1 Xaj) Xad)))) (Xau (i:=6) Xh9.nd rfl (Or.inl rfl)) (Xah (Xbl (Xa0 Xcc (hr.mono (by decide)) (by rfl) (Xaa (pv 5) (Xaa (pv 0) (Xaa (pv 2) (Xaa (Xaw Xim Xaj (pv 6)) Xad))))))
   (Xal (Xbl (Xa0 Xc1 (hr.mono (by decide)) (by rfl) (Xaa (pv 5) (Xaa (pv 0) (Xaa (pv 2) (Xaa (Xaw Xim Xaj (pv 6)) Xad)))))))))
   (Xal (Xa1 (pv 5))))),
  (Xam (Xa8 (Xat (Xab Xag (Xab Xae Xak))))
   (Xam (Xcu (Yg5 (Xai (Xap (Xaq Xb5 Xac (Xap Xae))) (Xai (Xap (Xaq Xb5 Xac (Xap Xae))) (Xai (Xap (Xl9 (Xap Xae))) Xan)))) Xav (Xam (Xkj (Xab Xag (Xab Xag (Xab (Xaq Xdd (Xap Xae) Xac) Xak))))
   (Xkj (Xab Xag (Xab Xag (Xab (Xaq Xdd (Xap Xae) Xac) Xak))))))
   Xfh)),?_⟩)
 rintro ds Pr ⟨α,z,g,op,x,sp,lad,h,w,L,d,e,rfl,hm,ok,l6,d6,h0,hh,hw,k⟩
 gn_on
 refine⟨α,g,h,w,0,e,rfl,by omega,hh,hw,?_⟩
 rw[Xt7]
 gp_on
 fin2
 refine⟨⟨by omega,by omega,by omega,by omega⟩,?_⟩
 rw[show ((L:Int)-1-((d:Int)-1)).toNat=L-d by omega]
 refine⟨λn M=>n<=L-d/\∃o e',M=[vD (.fn x),vD (.lst (shV g h w e)),vD lad,vI L,vI d,some (.own (.nl (shT g h w e'))),o]/\Xdq z op h w (L-n) d e'=Xdq z op h w L d e,⟨zero_le _,none,e,rfl,rfl⟩,?_,?_⟩
 .rintro n d' M hd ⟨hn,o,e',rfl,he⟩
  obtain⟨hi,rfl⟩:=Xfj hd
  obtain⟨m,hm'⟩:∃m,L-n=m+1:=⟨L-n-1,by omega⟩
  have hmL:m<L:=by omega
  obtain⟨p0,p1⟩:=Ydn (show m<=6 by omega)
  have hk:(L:Int)-1+(n:Int) * -1=(m:Int):=by omega
  have hp:(1:Int)*2^((m:Int)).toNat=((2^m:Nat):Int):=by simp
  rw[hk]
  gn_on
  rw[hp]
  refine⟨⟨by omega,by (clear d6 h0 hh hw hn hi;omega)⟩,α,z,g,op m,x,sp,lad,h,w,2^m,_,rfl,rfl,hm,(ok m hmL).2,p0,p1,h0,hh,hw,?_⟩
  gp_on
  fin2
  rw[hp]
  refine⟨⟨by omega,by (clear d6 h0 hh hw hn hi;omega)⟩,α,z,g,op m,x,sp,lad,h,w,2^m,_,rfl,rfl,hm,(ok m hmL).1,p0,p1,hh,?_⟩
  refine⟨hi,_,_,rfl,?_⟩
  rw[<- he,hm',show L-(n+1)=m by omega]
  show _=if d<=m then _ else _
  rw[if_pos (by (clear l6 h0 hh hw hm' hmL;omega))]
 .rintro M ⟨_,o,e',rfl,he⟩
  rw[Xdu]at he
  fin2
  rw[Yao (by omega)]at he
  rw[he]
  exact k
def shI (h w:Nat)(e:Nat->Nat->Int):D:=.lst (shV D.int h w e)
abbrev Xzm:Stmt:=top 67
theorem Xt8:FnScope ["picture","ladder","levels","sheet","k"] ["picture","ladder","levels"] (Xaf Xzm):=by walk_at "S"
def Xy9:DSp:=λds P=>∃(h w:Nat) (e:Nat->Nat->Int) (fs:List Lf) (L:Nat),ds=[shI h w e,Xge fs,.int L]/\(∀f∈fs,f.Ok)/\L<=6/\0<h/\h<=1000/\w<=1000/\P (.nl (shT D.int h w (Xrr 0 (λk=>Xbs fs (2^k:Nat)) h w L e)))
theorem Yhz {f:Addr}{fd:FuncData}(Df:DefAt K mg "laid" Xzm f fd)(B:BltV mg)(KV:KitV K)(Xde:Xtz K mg "raised")(Xd0:Cal P w K mg base "thinned" 1 ["sheet","k"] (spV K 2 Xiz))(Xc1:Cal P w K mg base "change_rows" 4 ["sheet","doing","ladder","stride"] (Ycs K 4 Xf4))(Xcc:Cal P w K mg base "change_columns" 4 ["sheet","doing","ladder","stride"] (Ycs K 4 Xd8)):
  Cal P w K mg base "laid" 5 ["picture","ladder","levels"] (spV K 3 Xy9):=by
 refine CalV.of Df Xt8 (by walk_at "b") rfl (λc A o s H E hr=>⟨_,_,(Xah (Xa9 (i:=3) Xt8.nd rfl (Or.inl rfl) (Xa0 Xd0 (hr.mono (by decide)) (by rfl) (Xaa (pv 0) (Xaa Xaj Xad))))
   (Xah (Xcv PassesOwn.never rfl (Xdv (by rfl) (by exact B.range) (Xaa (pv 2) Xad)) (Xau (i:=4) Xt8.nd rfl (Or.inl rfl)) (Xah (Xbl (Xa0 Xc1 (hr.mono (by decide)) (by rfl) (Xaa (pv 3) (Xaa (Yds (by rfl) Xde) (Xaa (pv 1) (Xaa (Xaw Xim Xaj (pv 4)) Xad))))))
   (Xal (Xbl (Xa0 Xcc (hr.mono (by decide)) (by rfl) (Xaa (pv 3) (Xaa (Yds (by rfl) Xde) (Xaa (pv 1) (Xaa (Xaw Xim Xaj (pv 4)) Xad)))))))))
   (Xal (Xa1 (pv 3))))),
  (Xam (Xa8 (Xat (Xab Xag (Xab Xae Xak))))
   (Xam (Xcu (Xhe (Xai Xac Xan)) Xav (Xam (Xkj (Xab (Ydd Xde) (Xab Xag (Xab (Xaq Xdd (Xap Xae) Xac) Xak))))
   (Xkj (Xab (Ydd Xde) (Xab Xag (Xab (Xaq Xdd (Xap Xae) Xac) Xak))))))
   Xfh)),?_⟩)
 rintro ds Pr ⟨h,w,e,fs,L,rfl,ok,l6,h0,hh,hw,k⟩
 simp only[shI]
 gn_on
 refine⟨Int,D.int,h,w,0,e,rfl,by omega,hh,hw,?_⟩
 rw[Xt7]
 gp_on
 fin2
 refine⟨⟨by omega,by omega⟩,?_⟩
 refine⟨λn M=>n<=L/\∃o,M=[vD (shI h w e),vD (Xge fs),vI L,some (.own (.nl (shT D.int h w (Xrr 0 (λk=>Xbs fs (2^k:Nat)) h w n e)))),o],⟨zero_le _,none,rfl⟩,?_,?_⟩
 .rintro n d M hd ⟨hn,o,rfl⟩
  obtain⟨hi,rfl⟩:=Xfj hd
  have hnL:n<L:=by omega
  obtain⟨p0,p1⟩:=Ydn (show n<=6 by omega)
  have hp:(1:Int)*2^(0+(n:Int)*1).toNat=((2^n:Nat):Int):=by simp
  gn_on
  rw[hp]
  refine⟨⟨by (clear hw;omega),by (clear h0 hh hw;omega)⟩,Int,0,D.int,Xbs fs (2^n:Nat),"raised",Xfc,Xge fs,h,w,2^n,_,rfl,rfl,by simp[Xu9],Xsl ok p0 p1 hw,p0,p1,hh,?_⟩
  gp_on
  fin2
  rw[hp]
  refine⟨⟨by (clear hw;omega),by (clear h0 hh hw;omega)⟩,Int,0,D.int,Xbs fs (2^n:Nat),"raised",Xfc,Xge fs,h,w,2^n,_,rfl,rfl,by simp[Xu9],Xsl ok p0 p1 hh,p0,p1,h0,hh,hw,?_⟩
  exact⟨hnL,_,rfl⟩
 .rintro M ⟨_,o,rfl⟩
  rw[Xdu,show ((L:Int)).toNat=L by omega]
  exact k
abbrev Xqj:Stmt:=top 69
theorem Xzg:FnScope ["wave","ladder","levels","down"] ["wave","ladder","levels","down"] (Xaf Xqj):=by walk_at "S"
def Xrx:DSp:=λds P=>∃(h w:Nat) (e:Nat->Nat->Int) (fs:List Lf) (L d:Nat),ds=[shI h w e,Xge fs,.int L,.int d]/\(∀f∈fs,f.Ok)/\L<=6/\d<=6/\0<h/\h<=1000/\w<=1000/\P (.nl (shT D.int h w (Xdq 0 (λk=>Xcw fs (2^k:Nat)) h w L d e)))
theorem Yax {f:Addr}{fd:FuncData}{T:Addr}{tk0:Tok}(Df:DefAtD K mg "opened" Xqj f fd T #[.int 0 tk0])(B:BltV mg)(KV:KitV K)(Xda:Xtz K mg "lowered")(Xeh:Cal P w K mg base "opened_by" 5 ["lowering","wave","ladder","levels","down"] (spV K 5 Xh0)):
  CalD P w K mg base "opened" 6 ["wave","ladder","levels","down"] (spV K 4 Xrx) [.int 0]:=by
 refine CalVD.of (ds:=[.int 0 tk0]) Df Xzg (λ_ _ _ _ _ _ us hl=>match us,hl with | [_,_,_,_],_=>⟨_,rfl,rfl⟩) (λ_ _ _ _ _ _ us hl=>by have hl':us.length=3:=(by simpa using hl);exact match us,hl' with | [_,_,_],_=>⟨_,rfl,rfl⟩) (.cons ⟨_,rfl⟩ (.nil)) rfl (λc A o s H E hr=>⟨_,_,(Xal (Xa1 (Xa0 Xeh (hr.mono (by decide)) (by rfl) (Xaa (Yds (by rfl) Xda) (Xaa (pv 0) (Xaa (pv 1) (Xaa (pv 2) (Xaa (pv 3) Xad)))))))),
  (Xa4 (Xat (Xab (Ydd Xda) (Xab Xag (Xab Xag (Xab Xag (Xab Xag Xak))))))),?_⟩)
 rintro ds Pr ⟨h,w,e,fs,L,d,rfl,ok,l6,d6,h0,hh,hw,k⟩
 simp only[shI]
 fin2
 refine⟨Int,0,D.int,λk=>Xcw fs (2^k:Nat),"lowered",Xe7,Xge fs,h,w,L,d,e,rfl,by simp[Xu9],λk hk=>?_,l6,d6,h0,hh,hw,k⟩
 obtain⟨p0,p1⟩:=Ydn (show k<=6 by omega)
 exact⟨Xpx ok p0 p1 hw,Xpx ok p0 p1 hh⟩
theorem Xvu {fs:List Lf}{st n:Nat}(ok:∀f∈fs,f.Ok)(s0:0<st)(s1:st<=64)(hn:n<=1000):OpOk Sp2 (0,0) spD (Xd7 (0,0) Xd2 fs st) n st (Xge fs) Xca where
 run:=λr hr Q q=>⟨r,fs,st,rfl,⟨ok,by omega,by omega,by omega⟩,q⟩
 len:=λr hr=>by rw[Xlv];exact hr
 off:=λr i hr hi hm=>Xk3 (z:=((0,0):Sp2)) (G:=Xd2) s0 hm fs.reverse r λf hf=>ok f (mem_reverse.mp hf)
 lf:=λx=>Ybb
abbrev Xf6:Stmt:=top 70
theorem Xni:FnScope ["sheet","ladder","levels","down"] ["sheet","ladder","levels","down"] (Xaf Xf6):=by walk_at "S"
def Xhz:DSp:=λds P=>∃(h w:Nat) (e:Nat->Nat->Sp2) (fs:List Lf) (L d:Nat),ds=[.lst (shV spD h w e),Xge fs,.int L,.int d]/\(∀f∈fs,f.Ok)/\L<=6/\d<=6/\0<h/\h<=1000/\w<=1000/\P (.nl (shT spD h w (Xdq (0,0) (λk=>Xd7 (0,0) Xd2 fs (2^k:Nat)) h w L d e)))
theorem Xn2 {f:Addr}{fd:FuncData}{T:Addr}{tk0:Tok}(Df:DefAtD K mg "opened_spans" Xf6 f fd T #[.int 0 tk0])(B:BltV mg)(KV:KitV K)(Xbm:Xtz K mg "lowered_spans")(Xeh:Cal P w K mg base "opened_by" 5 ["lowering","wave","ladder","levels","down"] (spV K 5 Xh0)):
  CalD P w K mg base "opened_spans" 6 ["sheet","ladder","levels","down"] (spV K 4 Xhz) [.int 0]:=by
 refine CalVD.of (ds:=[.int 0 tk0]) Df Xni (λ_ _ _ _ _ _ us hl=>match us,hl with | [_,_,_,_],_=>⟨_,rfl,rfl⟩) (λ_ _ _ _ _ _ us hl=>by have hl':us.length=3:=(by simpa using hl);exact match us,hl' with | [_,_,_],_=>⟨_,rfl,rfl⟩) (.cons ⟨_,rfl⟩ (.nil)) rfl (λc A o s H E hr=>⟨_,_,(Xal (Xa1 (Xa0 Xeh (hr.mono (by decide)) (by rfl) (Xaa (Yds (by rfl) Xbm) (Xaa (pv 0) (Xaa (pv 1) (Xaa (pv 2) (Xaa (pv 3) Xad)))))))),
  (Xa4 (Xat (Xab (Ydd Xbm) (Xab Xag (Xab Xag (Xab Xag (Xab Xag Xak))))))),?_⟩)
 rintro ds Pr ⟨h,w,e,fs,L,d,rfl,ok,l6,d6,h0,hh,hw,k⟩
 fin2
 refine⟨Sp2,(0,0),spD,λk=>Xd7 (0,0) Xd2 fs (2^k:Nat),"lowered_spans",Xca,Xge fs,h,w,L,d,e,rfl,by simp[Xu9],λk hk=>?_,l6,d6,h0,hh,hw,k⟩
 obtain⟨p0,p1⟩:=Ydn (show k<=6 by omega)
 exact⟨Xvu ok p0 p1 hw,Xvu ok p0 p1 hh⟩
theorem Ydg {α β:Type}{R:α->β->Prop}{z:α}{y:β}{op:List α->List α}{op':List β->List β}{h w st:Nat}{e:Nat->Nat->α}{e':Nat->Nat->β}(hop:∀(xs:List α) (ys:List β),xs.length=ys.length->(∀p,p<xs.length->R (xs.getD p z) (ys.getD p y))->∀p,p<xs.length->R ((op xs).getD p z) ((op' ys).getD p y))
  (q:∀i j,i<h->j<w->R (e i j) (e' i j)):∀i j,i<h->j<w->R (Xpm z op w st e i j) (Xpm y op' w st e' i j):=λi j hi hj=>by
 unfold Xpm
 split
 .refine hop _ _ (by rw[Xa7,Xa7]) (λp hp=>?_) j (by rw[Xa7];exact hj)
  rw[Xa7]at hp
  rw[Xez hp,Xez hp]
  exact q i p hi hp
 .exact q i j hi hj
theorem Yem {α β:Type}{R:α->β->Prop}{z:α}{y:β}{op:List α->List α}{op':List β->List β}{h w st:Nat}{e:Nat->Nat->α}{e':Nat->Nat->β}(hop:∀(xs:List α) (ys:List β),xs.length=ys.length->(∀p,p<xs.length->R (xs.getD p z) (ys.getD p y))->∀p,p<xs.length->R ((op xs).getD p z) ((op' ys).getD p y))
  (q:∀i j,i<h->j<w->R (e i j) (e' i j)):∀i j,i<h->j<w->R (Xp5 z op h st e i j) (Xp5 y op' h st e' i j):=λi j hi hj=>by
 unfold Xp5
 split
 .refine hop _ _ (by rw[Xa7,Xa7]) (λp hp=>?_) i (by rw[Xa7];exact hi)
  rw[Xa7]at hp
  rw[Xez hp,Xez hp]
  exact q p j hp hj
 .exact q i j hi hj
theorem Xnz {α β:Type}{R:α->β->Prop}{z:α}{y:β}{op:Nat->List α->List α}{op':Nat->List β->List β}{h w:Nat}(hop:∀(k:Nat) (xs:List α) (ys:List β),xs.length=ys.length->(∀p,p<xs.length->R (xs.getD p z) (ys.getD p y))->∀p,p<xs.length->R ((op k xs).getD p z) ((op' k ys).getD p y)):
  ∀(n d:Nat) (e:Nat->Nat->α) (e':Nat->Nat->β),(∀i j,i<h->j<w->R (e i j) (e' i j))->∀i j,i<h->j<w->R (Xdq z op h w n d e i j) (Xdq y op' h w n d e' i j)
 | 0,_,_,_,q=>q
 |n+1,d,e,e',q=>by
  unfold Xdq
  split
  .exact Xnz hop n d _ _ (Ydg (hop n) (Yem (hop n) q))
  .exact q
theorem Xwo {k:Nat}:(0:Int)<((2^k:Nat):Int):=by
 exact_mod_cast Nat.pow_pos (by decide)
theorem Ykq {fs:List Lf}(ok:∀f∈fs,f.Ok){h w L d:Nat}{e e':Nat->Nat->Sp2}(q:∀i j,inS (e i j) (e' i j))(i j:Nat)(hi:i<h)(hj:j<w):
  inS (Xdq (0,0) (λk=>Xd7 (0,0) Xd2 fs (2^k:Nat)) h w L d e i j) (Xdq (0,0) (λk=>Xd7 (0,0) Xd2 fs (2^k:Nat)) h w L d e' i j):=
 Xnz (R:=inS) (z:=((0,0):Sp2)) (y:=((0,0):Sp2)) (op:=λk=>Xd7 (0,0) Xd2 fs (2^k:Nat)) (op':=λk=>Xd7 (0,0) Xd2 fs (2^k:Nat)) (h:=h) (w:=w)
  (λk xs ys hl hr p hp=>Xp3 (R:=inS) (z:=((0,0):Sp2)) (y:=((0,0):Sp2)) (G:=Xd2) (G':=Xd2) (fs:=fs) (xs:=xs) (ys:=ys) Xwo ok hl hr (λf _ a b c a' b' c' h1 h2 h3=>Yde h1 h2 h3) p hp) L d e e' (λi j _ _=>q i j) i j hi hj
theorem Ykp {fs:List Lf}(ok:∀f∈fs,f.Ok){h w L d:Nat}{e:Nat->Nat->Int}(i j:Nat)(hi:i<h)(hj:j<w):
  Xdq (0,0) (λk=>Xd7 (0,0) Xd2 fs (2^k:Nat)) h w L d (λi j=>(e i j,e i j)) i j=(Xdq 0 (λk=>Xcw fs (2^k:Nat)) h w L d e i j,Xdq 0 (λk=>Xcw fs (2^k:Nat)) h w L d e i j):=
 Xnz (R:=λ(s:Sp2) (x:Int)=>s=(x,x)) (z:=((0,0):Sp2)) (y:=(0:Int)) (op:=λk=>Xd7 (0,0) Xd2 fs (2^k:Nat)) (op':=λk=>Xcw fs (2^k:Nat)) (h:=h) (w:=w)
  (λk xs ys hl hr p hp=>Xp3 (R:=λ(s:Sp2) (x:Int)=>s=(x,x)) (z:=((0,0):Sp2)) (y:=(0:Int)) (G:=Xd2) (G':=λf x l r=>x+(-1)*Xls f l r) (fs:=fs) (xs:=xs) (ys:=ys) Xwo ok hl hr (λf _ a b c a' b' c' h1 h2 h3=>by rw[h1,h2,h3,Xz1]) p hp) L d _ e (λi j _ _=>rfl) i j hi hj
theorem Ycp {β:Type}{n:Nat}{f:Nat->β}{x:β}:tab n f++[x]=tab (n+1) λi=>if i=n then x else f i:=by
 unfold tab
 rw[range_succ,map_append]
 congr 1
 .refine map_congr_left λi hi=>?_
  have:=mem_range.mp hi
  rw[if_neg (by omega)]
 .simp
theorem Yad {a b:Nat}(h:a<=b):(2:Int)^a<=2^b:=by
 have:(2:Nat)^a<=2^b:=pow_le_pow_right (by decide) h
 exact_mod_cast this
theorem Yiu {q d:Int}(hd:1<=d){B:Int}(h1 : -B<=q)(h2:q<=B)(hB:0<=B) : -B<=q / d/\q / d<=B:=by
 constructor
 .rw [Int.le_ediv_iff_mul_le (by omega)]
  have:B*1<=B*d:=Int.mul_le_mul_of_nonneg_left hd hB
  rw[neg_mul]
  omega
 .refine Int.ediv_le_of_le_mul (by omega) ?_
  have:B*1<=B*d:=Int.mul_le_mul_of_nonneg_left hd hB
  omega
theorem Ya6 {c x B:Int}(hc : -8<=c/\c<=8)(hx : -B<=x/\x<=B) : -(8*B)<=c*x/\c*x<=8*B:=by
 have hB:0<=B:=by omega
 rcases Int.le_total 0 c with h |h
 .have h1:c*x<=c*B:=Int.mul_le_mul_of_nonneg_left hx.2 h
  have h2:c*B<=8*B:=Int.mul_le_mul_of_nonneg_right hc.2 hB
  have h3:c*(-B)<=c*x:=Int.mul_le_mul_of_nonneg_left hx.1 h
  rw[mul_neg]at h3
  exact⟨by omega,by omega⟩
 .have h1:(-c)*x<=(-c)*B:=Int.mul_le_mul_of_nonneg_left hx.2 (by omega)
  have h2:(-c)*B<=8*B:=Int.mul_le_mul_of_nonneg_right (by omega) hB
  have h3:(-c)*(-B)<=(-c)*x:=Int.mul_le_mul_of_nonneg_left hx.1 (by omega)
  rw[mul_neg,neg_mul,neg_mul]at h3
  rw[neg_mul,neg_mul]at h1
  rw[neg_mul]at h2
  exact⟨by omega,by omega⟩
theorem Yiq {f:Lf}(ok:f.Ok){b:Nat}(hb:6<=b){x y:Int}(hx : -2^b<=x/\x<=2^b)(hy : -2^b<=y/\y<=2^b) : -(17*2^b)<=Xls f x y/\Xls f x y<=17*2^b:=by
 have h6:(64:Int)<=2^b:=Yad (a:=6) hb
 have h1:=Ya6 ok.l hx
 have h2:=Ya6 ok.r hy
 have h3:=ok.a
 have hd:(1:Int)<=2^f.s.toNat:=Yad (a:=0) (zero_le _)
 unfold Xls
 exact Yiu hd (by omega) (by omega) (by omega)
theorem Yic {f:Lf}(ok:f.Ok){b:Nat}(hb:6<=b){st:Int}(hs:0<st){xs:List Int}(h:∀p:Nat,-2^b<=xs.getD p 0/\xs.getD p 0<=2^b):∀p:Nat,-2^(b+5)<=(Xhu 1 f st xs).getD p 0/\(Xhu 1 f st xs).getD p 0<=2^(b+5):=λp=>by
 have h0:(0:Int)<2^b:=Int.pow_pos (by decide)
 have e5:(2:Int)^(b+5)=32*2^b:=by rw[Int.pow_add,Int.mul_comm];rfl
 rw[(Xkv hs ok.h).2 p,e5]
 have hp:=h p
 split
 .unfold Xhy
  have hg:=Yiq ok hb (h (nbL (p:Int) xs.length st).toNat) (h (nbR (p:Int) xs.length st).toNat)
  rw[toNat_natCast,one_mul]
  exact⟨by omega,by omega⟩
 .exact ⟨by omega,by omega⟩
theorem Xqp {st:Int}(hs:0<st):∀{fs:List Lf} {b:Nat} {xs:List Int},(∀f∈fs,f.Ok)->6<=b->(∀p:Nat,-2^b<=xs.getD p 0/\xs.getD p 0<=2^b)->∀p:Nat,-2^(b+5*fs.length)<=(Xbs fs st xs).getD p 0/\(Xbs fs st xs).getD p 0<=2^(b+5*fs.length)
 | [],b,xs,_,_,h=>h
 |f::fs,b,xs,ok,hb,h=>by
  have:=Xqp hs (fs:=fs) (b:=b+5) (xs:=Xhu 1 f st xs) (λg hg=>ok g (by simp[hg])) (by omega) (Yic (ok f (by simp)) hb hs h)
  rw[length_cons,show b+5*(fs.length+1)=b+5+5*fs.length by omega]
  exact this
theorem Yex {b n:Nat}{f:Nat->Int}(h:∀i,-2^b<=f i/\f i<=2^b):∀p:Nat,-2^b<=(tab n f).getD p 0/\(tab n f).getD p 0<=2^b:=λp=>by
 have h0:(0:Int)<2^b:=Int.pow_pos (by decide)
 by_cases hp:p<n
 .rw [Xez hp];exact h p
 .rw [getD_eq_getElem?_getD,getElem?_eq_none (by rw[Xa7];omega)]
  exact⟨by show -2^b<=(0:Int);omega,by show (0:Int)<=2^b;omega⟩
theorem Yfx {fs:List Lf}(ok:∀f∈fs,f.Ok){h w b:Nat}(hb:6<=b){e:Nat->Nat->Int}(he:∀i j,-2^b<=e i j/\e i j<=2^b):∀(L:Nat) (i j:Nat),-2^(b+10*fs.length*L)<=Xrr 0 (λk=>Xbs fs (2^k:Nat)) h w L e i j/\Xrr 0 (λk=>Xbs fs (2^k:Nat)) h w L e i j<=2^(b+10*fs.length*L)
 | 0,i,j=>he i j
 |L + 1,i,j=>by
  have ih:=Yfx (h:=h) (w:=w) ok hb he L
  have hs:(0:Int)<((2^L:Nat):Int):=by have:=two_pow_pos L;omega
  have up:∀{a c:Nat} {x:Int},a<=c->(-2^a<=x/\x<=2^a)->-2^c<=x/\x<=2^c:=λhac hx=>by
   have:=Yad hac
   exact⟨by (clear hb hs;omega),by (clear hb hs;omega)⟩
  have r1:∀i j,-2^(b+10*fs.length*L+5*fs.length)<=Xpm 0 (Xbs fs (2^L:Nat)) w (2^L) (Xrr 0 (λk=>Xbs fs (2^k:Nat)) h w L e) i j/\Xpm 0 (Xbs fs (2^L:Nat)) w (2^L) (Xrr 0 (λk=>Xbs fs (2^k:Nat)) h w L e) i j<=2^(b+10*fs.length*L+5*fs.length):=λi j=>by
   unfold Xpm
   split
   .exact Xqp hs ok (by omega) (Yex (ih i)) j
   .exact up (by omega) (ih i j)
  show -2^_<=Xp5 0 (Xbs fs (2^L:Nat)) h (2^L) _ i j/\Xp5 0 (Xbs fs (2^L:Nat)) h (2^L) _ i j<=_
  rw[show b+10*fs.length*(L+1)=b+10*fs.length*L+5*fs.length+5*fs.length by rw[Nat.mul_add];omega]
  unfold Xp5
  split
  .exact Xqp hs ok (by omega) (Yex (λi=>r1 i j)) i
  .exact up (by omega) (r1 i j)
theorem Ydm (e:Nat):(0:Int)<2^e:=by
 have h1:0<(2:Nat)^e:=Nat.pow_pos (by decide)
 have h2:((2^e:Nat):Int)=(2:Int)^e:=by simp
 omega
theorem Ym3 {i j:Int}(hi:0<=i)(hj:0<=j):Builtin.bitOr i j=((i.toNat|||j.toNat:Nat):Int):=by
 unfold Builtin.bitOr
 have e1:decide (0<=Builtin.bitNot i)=false:=decide_eq_false (by unfold Builtin.bitNot;omega)
 have e2:decide (0<=Builtin.bitNot j)=false:=decide_eq_false (by unfold Builtin.bitNot;omega)
 have e3:Builtin.bitNot (Builtin.bitNot i)=i:=by unfold Builtin.bitNot;omega
 have e4:Builtin.bitNot (Builtin.bitNot j)=j:=by unfold Builtin.bitNot;omega
 unfold Builtin.bitAnd
 rw[e1,e2]
 dsimp only
 rw[e3,e4]
 unfold Builtin.bitNot
 omega
theorem Yi4 (n:Nat):Builtin.bitAnd (n:Int) 1=((n%2:Nat):Int):=by
 unfold Builtin.bitAnd
 rw[decide_eq_true (show (0:Int)<=(n:Int) by omega),decide_eq_true (show (0:Int)<=1 by decide)]
 dsimp only
 have e:(1:Int).toNat=1:=rfl
 rw[toNat_natCast,e,Nat.and_one_is_mod]
theorem Yen {i j:Int}(hi:0<=i)(hj:0<=j)(L:Nat):Builtin.bitAnd (Builtin.bitOr i j / 2^L) 1=0↔i / 2^L%2=0/\j / 2^L%2=0:=by
 obtain⟨a,rfl⟩:=Int.eq_ofNat_of_zero_le hi
 obtain⟨b,rfl⟩:=Int.eq_ofNat_of_zero_le hj
 rw[Ym3 hi hj]
 have e:((((a:Int).toNat|||(b:Int).toNat:Nat):Int) / 2^L)=(((a|||b) / 2^L:Nat):Int):=by
  simp
 rw[e,Yi4]
 have t:(a|||b) / 2^L%2=0↔(a / 2^L%2=0/\b / 2^L%2=0):=by
  have h:=Nat.testBit_or a b L
  rw[Nat.testBit_eq_decide_div_mod_eq,Nat.testBit_eq_decide_div_mod_eq,Nat.testBit_eq_decide_div_mod_eq]at h
  have h':=(decide_eq_decide (p:=(a|||b) / 2^L%2=1) (q:=a / 2^L%2=1∨b / 2^L%2=1)).mp (by rw[h,Bool.decide_or])
  omega
 have c1:((a:Int) / 2^L%2=0)↔a / 2^L%2=0:=by
  have:((a:Int) / 2^L%2)=((a / 2^L%2:Nat):Int):=by simp
  clear hj e;omega
 have c2:((b:Int) / 2^L%2=0)↔b / 2^L%2=0:=by
  have:((b:Int) / 2^L%2)=((b / 2^L%2:Nat):Int):=by simp
  clear hi e;omega
 rw[c1,c2,<- t]
 omega
def lvl:Nat->Int->Int->Nat
 | 0,_,_=>0
 |n+1,i,j=>if i%2=0/\j%2=0 then 1+lvl n (i / 2) (j / 2) else 0
theorem Xs8:∀(n:Nat) (i j:Int),lvl n i j<=n
 | 0,_,_=>Nat.le_refl _
 |n+1,i,j=>by
  unfold lvl
  split
  .have:=Xs8 n (i / 2) (j / 2);omega
  .omega
theorem Ybx (i:Int)(L:Nat):i / 2^L / 2=i / 2^(L+1):=by
 rw[Int.pow_succ,Int.ediv_ediv_of_nonneg (Int.le_of_lt (Ydm L))]
abbrev Xlf:Stmt:=top 33
theorem Xg0:FnScope ["i","j","levels","both","level"] ["i","j","levels"] (Xaf Xlf):=by walk_at "S"
def Xgv:DSp:=λds P=>match ds with
 | [.int i,.int j,.int n]=>(0<=i/\0<=j/\0<=n)/\P (.fz (.int (lvl n.toNat i j)))
 |_=>False
theorem Xun {f:Addr}{fd:FuncData}(Df:DefAt K mg "level_of" Xlf f fd)(B:BltV mg)(KV:KitV K)(Xq6:Xtz K mg "level"):
  Cal P w K mg base "level_of" 1 ["i","j","levels"] (spV K 3 Xgv):=by
 refine CalV.of Df Xg0 (by walk_at "b") rfl (λc A o s H E hr=>⟨_,_,(Xah (Xa9 (i:=3) Xg0.nd rfl (Or.inl rfl) (Xaw Ym4 (pv 0) (pv 1)))
   (Xah (Xa9 (i:=4) Xg0.nd rfl (Or.inl rfl) Xaj)
   (Xah (Xwb PassesOwn.never (Yfm (Xbq Xn1 (pv 4) (pv 2) (Xbo _)) (Yab (Xbq Xln (Xaw Yat (Xaw Xps (pv 3) (pv 4)) Xaj) Xaj (Xbo _)))).pt (Xal (Yfn (i:=4) Xg0.nd rfl (Or.inl rfl) Xaj Yf0)))
   (Xal (Xa1 (pv 4)))))),
  (Xam (Xa8 (Xbk (Xaq Xb5 Xac Xac)))
   (Xam (Xa8 (Xbk Xae))
   (Xam (Xv1 (Ye5 (Xbp (Xaq Xf9 Xac Xac)) (Xbp (Xaq Xlq (Xap (Xaq Xb5 (Xap (Xaq Xdd Xac Xac)) (Xap Xae))) (Xap Xae)))) (Yfb Ym5 (Xap Xae)))
   (Xa4 (Xbk Xag))))),?_⟩)
 intro ds Pr h
 unfold Xgv at h
 split at h
 .rename_i i j n
  obtain⟨⟨hi,hj,hn⟩,k⟩:=h
  fin2
  refine⟨λm M=>∃L:Nat,M=[vI i,vI j,vI n,vI (Builtin.bitOr i j),vI L]/\(L:Int)<=n/\m=n.toNat-L/\lvl n.toNat i j=L+lvl (n.toNat-L) (i / 2^L) (j / 2^L),⟨_,0,rfl,by omega,rfl,by simp⟩,?_⟩
  rintro m M ⟨L,rfl,h1,rfl,h2⟩
  fin2
  by_cases hL:(L:Int)<n
  .rw [if_pos hL]
   refine⟨by (clear h1;omega),?_⟩
   rw[toNat_natCast]
   obtain⟨q,hq⟩:∃q,n.toNat-L=q+1:=⟨n.toNat-L-1,by (clear h1;omega)⟩
   rw[hq,lvl]at h2
   have hb:=Yen hi hj L
   by_cases hz:Builtin.bitAnd (Builtin.bitOr i j / 2^L) 1=0
   .rw [if_pos hz]
    rw[if_pos (hb.mp hz),Ybx,Ybx]at h2
    refine⟨n.toNat-(L+1),by omega,L+1,rfl,by omega,rfl,?_⟩
    rw[show n.toNat-(L+1)=q by omega]
    omega
   .rw [if_neg hz]
    rw[if_neg λz=>hz (hb.mpr z)]at h2
    rw[h2]at k
    exact k
  .rw [if_neg hL]
   have e:n.toNat-L=0:=by omega
   rw[e,lvl]at h2
   rw[h2]at k
   simpa using k
 .exact h.elim
def ptD (p:Int×Int):D:=.tup [.int p.1,.int p.2]
def Xjy (i w:Nat):List (Int×Int):=(List.range w).map λ(j:Nat)=>((i:Int),(j:Int))
def Xmq (h w:Nat):List (Int×Int):=(List.range h).flatMap λi=>Xjy i w
def lvF (n:Nat)(p:Int×Int):Nat:=lvl n p.1 p.2
def grp (n:Nat)(ps:List (Int×Int))(l:Nat):List (Int×Int):=ps.filter λp=>lvF n p==l
def Xbz (h w n:Nat):List (Int×Int):=((List.range (n+1)).map (grp n (Xmq h w))).reverse.flatten
def Xwv (n:Nat)(ps:List (Int×Int)):List OV:=(List.range (n+1)).map λl=>.nl ((grp n ps l).map λp=>.fz (ptD p))
theorem Yee (n:Nat):Xwv n []=(List.range (n+1)).map λ_=>OV.nl []:=rfl
theorem Xra {n l:Nat}{ps:List (Int×Int)}(h:l<=n):(Xwv n ps)[l]?=some (.nl ((grp n ps l).map λp=>.fz (ptD p))):=by
 unfold Xwv
 rw[getElem?_map,getElem?_range (by omega)]
 rfl
theorem Ybl {n:Nat}{ps:List (Int×Int)}{p:Int×Int}:(Xwv n ps).set (lvF n p) (.nl (((grp n ps (lvF n p)).map λp=>OV.fz (ptD p))++[.fz (ptD p)]))=Xwv n (ps++[p]):=by
 have hle:lvF n p<=n:=Xs8 _ _ _
 refine ext_getElem? λl=>?_
 rw[getElem?_set]
 by_cases hl:l<=n
 .rw [Xra hl,Xra hl]
  have eg:grp n (ps++[p]) l=grp n ps l++(if lvF n p=l then [p] else []):=by
   unfold grp
   rw[List.filter_append]
   congr 1
   by_cases z:lvF n p=l<;>simp[z]
  rw[eg]
  by_cases z:lvF n p=l
  .rw [if_pos z,if_pos z,if_pos (by simp[Xwv];omega),map_append,z]
   rfl
  .rw [if_neg z,if_neg z,append_nil]
 .have e1:(Xwv n ps)[l]?=none:=getElem?_eq_none (by simp[Xwv];omega)
  have e2:(Xwv n (ps++[p]))[l]?=none:=getElem?_eq_none (by simp[Xwv];omega)
  rw[if_neg (by omega),e1,e2]
theorem Xye {n l:Nat}{ps:List (Int×Int)}:(grp n ps l).length<=ps.length:=List.length_filter_le _ _
theorem Xor {i w:Nat}:Xmq (i+1) w=Xmq i w++Xjy i w:=by
 unfold Xmq
 rw[range_succ,List.flatMap_append]
 simp
theorem Xxt {i j:Nat}:Xjy i (j+1)=Xjy i j++[((i:Int),(j:Int))]:=by
 unfold Xjy
 rw[range_succ,map_append]
 rfl
theorem Xsq {i w:Nat}:(Xjy i w).length=w:=by simp[Xjy]
theorem Xw8 {h w:Nat}:(Xmq h w).length=h*w:=by
 induction h with
 |zero=>simp[Xmq]
 |succ h ih=>rw[Xor,length_append,ih,Xsq,succ_mul]
theorem Ybk {n:Nat}{ps:List (Int×Int)}:(Xwv n ps).map OV.val=(List.range (n+1)).map λl=>D.lst ((grp n ps l).map ptD):=by
 unfold Xwv
 rw[map_map]
 refine map_congr_left λl _=>?_
 show OV.val (.nl _)=_
 rw[OV.val,OV.vals_eq,map_map]
 rfl
theorem Xy1 (k:Nat)(g:Nat->Nat):∀m:Nat,k<m->((List.range m).map λl=>g l+if k=l then 1 else 0).sum=((List.range m).map g).sum+1
 | 0,h=>by omega
 |m + 1,h=>by
  rw[range_succ,map_append,map_append,sum_append,sum_append]
  by_cases hk:k=m
  .subst hk
   have:((List.range k).map λl=>g l+if k=l then 1 else 0)=(List.range k).map g:=by
    refine map_congr_left λl hl=>?_
    rw[if_neg (by have:=mem_range.mp hl;omega)];rfl
   rw[this]
   simp
   omega
  .rw [Xy1 k g m (by omega)]
   simp[hk]
   omega
theorem Yjd:∀m:Nat,((List.range m).map λ_=>0).sum=0
 | 0=>rfl
 |m+1=>by
  rw[range_succ,map_append,sum_append,Yjd m]
  rfl
theorem Ybj (n:Nat):∀ps:List (Int×Int),((List.range (n+1)).map λl=>(grp n ps l).length).sum=ps.length
 | []=>by
  have:((List.range (n+1)).map λl=>(grp n [] l).length)=(List.range (n+1)).map λ_=>0:=map_congr_left λl _=>rfl
  rw[this]
  exact Yjd _
 |p :: ps=>by
  have e:((List.range (n+1)).map λl=>(grp n (p::ps) l).length)=(List.range (n+1)).map λl=>(grp n ps l).length+if lvF n p=l then 1 else 0:=by
   refine map_congr_left λl _=>?_
   unfold grp
   rw[filter_cons]
   by_cases z:lvF n p=l<;>simp[z]
  rw[e,Xy1 _ _ _ (by have:=Xs8 n p.1 p.2;unfold lvF;omega),Ybj n ps]
  rfl
theorem Xef {h w n:Nat}:(Xbz h w n).length=h*w:=by
 unfold Xbz
 rw[List.length_flatten,map_reverse,List.sum_reverse,map_map]
 exact (Ybj n (Xmq h w)).trans Xw8
theorem Xj6 {α:Type}{xs:List (List α)}{i:Nat}{x:List α}(h:xs[i]?=some x):(xs.take (i+1)).flatten=(xs.take i).flatten++x:=by
 obtain⟨hi,e⟩:=List.getElem?_eq_some_iff.mp h
 rw[take_succ_eq_append_getElem hi,e,List.flatten_append]
 simp
abbrev Xmu:Stmt:=top 34
theorem Xgj:FnScope ["high","wide","levels","groups","i","j","ordered","group"] ["high","wide","levels"] (Xaf Xmu):=by walk_at "S"
def Xne:DSp:=λds P=>∃h w n:Nat,ds=[.int (h:Int),.int (w:Int),.int (n:Int)]/\(h<=100/\w<=100/\n<=100)/\P (.nl ((Xbz h w n).map λp=>.fz (ptD p)))
theorem Yaw {f:Addr}{fd:FuncData}(Df:DefAt K mg "places" Xmu f fd)(B:BltV mg)(KV:KitV K)(Xq6:Xtz K mg "level")(Xly:Cal P w K mg base "level_of" 1 ["i","j","levels"] (spV K 3 Xgv)):
  Cal P w K mg base "places" 2 ["high","wide","levels"] (spV K 3 Xne):=by
 refine CalV.of Df Xgj (by walk_at "b") rfl (λc A o s H E hr=>⟨_,_,(Xah (Xlk (i:=3) Xgj.nd rfl (Or.inl rfl) rfl (Xdv (by rfl) (by exact B.range) (Xaa (Xaw Xc5 (pv 2) Xaj) Xad)) (show BlkScope (Xaf Xmu) _ from⟨rfl,by decide +kernel,by decide +kernel,by decide +kernel⟩) (N:=["level"]) (ix:=[none]) (show Xd1 _ _ _ _ from trivial) (λ_ _ _=>(Xau (i:=0) (show List.Nodup (["level"]:List Str) by decide +kernel) rfl (Or.inl rfl))) (λ_ _ _=>(Xb8 Xad)))
   (Xah (Xcv PassesOwn.never rfl (Xdv (by rfl) (by exact B.range) (Xaa (pv 0) Xad)) (Xau (i:=4) Xgj.nd rfl (Or.inl rfl)) (Xal (Xcv PassesOwn.never rfl (Xdv (by rfl) (by exact B.range) (Xaa (pv 1) Xad)) (Xau (i:=5) Xgj.nd rfl (Or.inl rfl)) (Xal (Xbl (Xik plainAttrs_list PySem.F.slot_list_append PySem.F.type_list_append Xci (Xax Xbr (pv 3) (Xa0 Xly (hr.mono (by decide)) (by rfl) (Xaa (pv 4) (Xaa (pv 5) (Xaa (pv 2) Xad)))) (λ_ _=>rfl)) (Xaa (Xbd (Xaa (pv 4) (Xaa (pv 5) Xad))) Xad)))))))
   (Xah (Xa9 (i:=6) Xgj.nd rfl (Or.inl rfl) (Xb8 Xad))
   (Xah (Xcv PassesOwn.never rfl (Xsr rfl B.reversed (Xaa (pv 3) Xad)) (Xau (i:=7) Xgj.nd rfl (Or.inl rfl)) (Xal (Xbl (Xik plainAttrs_list slot_list_extend type_list_extend Xpv (pv 6) (Xaa (pv 7) Xad)))))
   (Xal (Xa1 (pv 6))))))),
  (Xam (Xa8 (Xc6 (Xhe (Xai (Xap (Xaq Xb5 Xac (Xap Xae))) Xan)) Xav (Xc4 Xb7)))
   (Xam (Xcu (Xhe (Xai Xac Xan)) Xav (Xcu (Xhe (Xai Xac Xan)) Xav (Yg1 (Xap (Xb4 (Xat (Xab Xag (Xab Xag (Xab Xag Xak)))))) (Xbk (Xbx (Xab Xag (Xab Xag Xak)))))))
   (Xam (Xa8 (Xc4 Xb7))
   (Xam (Ye9 3 (Xcu (Yg6 (Xab Xag Xak)) Xav (Yfa Xag)))
   Xfh)))),?_⟩)
 rintro ds Pr ⟨h,w',n,rfl,⟨hh,hw,hn⟩,k⟩
 refine Ye6 λN hN=>?_
 fin2
 refine⟨⟨by omega,by omega⟩,Xme.rng (λ_=>.nl []) (by omega) (λi hi Q q=>by fin2;exact q) ?_⟩
 rw[show ((n:Int)+1).toNat=n+1 by omega,<- Yee]
 gp_on
 gn_on
 refine⟨⟨by omega,by omega⟩,λi M=>i<=h/\∃o4 o5 o6 o7,M=[vI h,vI w',vI n,vL (Xwv n (Xmq i w')),o4,o5,o6,o7],⟨zero_le _,_,_,_,_,rfl⟩,?_,?_⟩
 .rintro i d M hd ⟨hi',o4,o5,o6,o7,rfl⟩
  obtain⟨hi,rfl⟩:=Xfj hd
  rw[toNat_natCast]at hi
  fin2
  refine⟨⟨by omega,by omega⟩,λj M=>∃o5,M=[vI h,vI w',vI n,vL (Xwv n (Xmq i w'++Xjy i j)),vI (0+(i:Int)*1),o5,o6,o7],⟨o5,by simp[Xjy]⟩,?_,?_⟩
  .rintro j e M he ⟨o5,rfl⟩
   obtain⟨hj,rfl⟩:=Xfj he
   rw[toNat_natCast]at hj
   rw[show 0+(i:Int)*1=i by omega,show 0+(j:Int)*1=j by omega]
   fin2
   simp only[Xgv]
   refine⟨⟨by omega,by omega,by omega⟩,?_⟩
   fin2
   rw[toNat_natCast,toNat_natCast]
   have hle:lvl n i j<=n:=Xs8 _ _ _
   refine⟨by omega,_,Xra (l:=lvl n i j) hle,?_,?_⟩
   .have h1:=Xye (n:=n) (l:=lvl n i j) (ps:=Xmq i w'++Xjy i j)
    rw[length_append,Xw8,Xsq]at h1
    have h2:i*w'<=100*100:=mul_le_mul (by omega) hw
    rw[length_map]
    omega
   .have e:=Ybl (n:=n) (ps:=Xmq i w'++Xjy i j) (p:=((i:Int),(j:Int)))
    rw[append_assoc,<- Xxt]at e
    rw[<- e]
    exact⟨_,rfl⟩
  .rintro M ⟨o5,rfl⟩
   rw[Xdu,toNat_natCast,<- Xor]
   exact⟨hi,_,_,_,_,rfl⟩
 rintro M ⟨hi,o4,o5,o6,o7,rfl⟩
 rw[Xdu,toNat_natCast]
 gp_on
 gn_on
 gp_on
 gn_on
 rw[Ybk,<- map_reverse]
 generalize hg3:some (Sl.own (OV.fz (D.lst ((List.range (n+1)).map λl=>D.lst ((grp n (Xmq h w') l).map ptD)))))=o3
 refine⟨λi M=>∃o7,M=[vI h,vI w',vI n,o3,o4,o5,vL ((((((List.range (n+1)).map (grp n (Xmq h w'))).reverse).take i).flatten).map λp=>.fz (ptD p)),o7],?_,?_,?_⟩
 .exact ⟨_,rfl⟩
 .rintro i d M hd ⟨o7,rfl⟩
  obtain⟨l,hl,rfl⟩:=Xs6 hd
  have hx:(((List.range (n+1)).map (grp n (Xmq h w'))).reverse)[i]?=some (grp n (Xmq h w') l):=by
   rw[<- map_reverse,getElem?_map,hl]
   rfl
  dsimp only
  rw[Xj6 hx]
  have hlen:((((List.range (n+1)).map (grp n (Xmq h w'))).reverse.take i).flatten).length+(grp n (Xmq h w') l).length<=10000:=by
   rw[<- length_append,<- Xj6 hx]
   have h1:((((List.range (n+1)).map (grp n (Xmq h w'))).reverse.take (i+1)).flatten).length<=(Xbz h w' n).length:=by
    unfold Xbz
    conv=>rhs;rw[<- take_append_drop (i+1) ((List.range (n+1)).map (grp n (Xmq h w'))).reverse,List.flatten_append,length_append]
    omega
   rw[Xef]at h1
   have h2:h*w'<=100*100:=mul_le_mul hh hw
   omega
  fin2
  refine⟨by omega,?_⟩
  rw[map_map,map_append]
  exact⟨_,rfl⟩
 .rintro M ⟨o7,rfl⟩
  rw[length_map,length_reverse,length_range,take_of_length_le (by simp)]
  gp_on
  fin2
  exact k
def Yk6 (n:Nat)(p:Int×Int):List Int:=[0-(lvF n p:Int),p.1,p.2]
def Xu2 (n:Nat)(p q:Int×Int):Prop:=HT.lexLt (Yk6 n p) (Yk6 n q)=true
theorem Xu1 {n:Nat}{p q:Int×Int}(h:lvF n q<lvF n p):Xu2 n p q:=by
 unfold Xu2 Yk6
 rw[HT.lexLt_cons,if_neg (by omega)]
 exact decide_eq_true (by omega)
theorem Xta {n:Nat}{p q:Int×Int}(h:lvF n p=lvF n q)(hr:p.1<q.1∨(p.1=q.1/\p.2<q.2)):Xu2 n p q:=by
 unfold Xu2 Yk6
 rw[HT.lexLt_cons,if_pos (by omega),HT.lexLt_cons]
 rcases hr with hr | ⟨h1,h2⟩
 .rw [if_neg (by omega)];exact decide_eq_true hr
 .rw [if_pos h1,HT.lexLt_cons,if_neg (by omega)];exact decide_eq_true h2
def Yhi (p q:Int×Int):Prop:=p.1<q.1∨(p.1=q.1/\p.2<q.2)
theorem Xus {i w:Nat}{p:Int×Int}:p∈Xjy i w↔p.1=i/\0<=p.2/\p.2<w:=by
 unfold Xjy
 rw[mem_map]
 constructor
 .rintro ⟨j,hj,rfl⟩
  have:=mem_range.mp hj
  exact⟨rfl,by show (0:Int)<=(j:Int);omega,by show (j:Int)<w;omega⟩
 .rintro ⟨h1,h2,h3⟩
  exact⟨p.2.toNat,mem_range.mpr (by omega),Prod.ext h1.symm (by show ((p.2.toNat:Nat):Int)=p.2;omega)⟩
theorem Xut {h w:Nat}{p:Int×Int}:p∈Xmq h w↔(0<=p.1/\p.1<h)/\0<=p.2/\p.2<w:=by
 unfold Xmq
 rw[List.mem_flatMap]
 constructor
 .rintro ⟨i,hi,hp⟩
  have:=mem_range.mp hi
  obtain⟨h1,h2⟩:=Xus.mp hp
  exact⟨by omega,h2⟩
 .rintro ⟨h1,h2⟩
  exact⟨p.1.toNat,mem_range.mpr (by omega),Xus.mpr ⟨by omega,h2⟩⟩
theorem Yj3 {i w:Nat}:(Xjy i w).Pairwise Yhi:=by
 unfold Xjy
 rw[List.pairwise_map]
 exact List.Pairwise.imp (λ{a b} hab=>.inr ⟨rfl,by show (a:Int)<(b:Int);omega⟩) (List.pairwise_lt_range)
theorem Ygf {w:Nat}:∀h:Nat,(Xmq h w).Pairwise Yhi
 | 0=>by simp[Xmq]
 |h+1=>by
  rw[Xor,List.pairwise_append]
  refine⟨Ygf h,Yj3,λp hp q hq=>.inl ?_⟩
  have h1:=(Xut.mp hp).1
  have h2:=(Xus.mp hq).1
  omega
theorem Xxr {h w n:Nat}:(Xbz h w n).Pairwise (Xu2 n):=by
 unfold Xbz
 rw[List.pairwise_flatten]
 constructor
 .intro l hl
  rw[mem_reverse,mem_map]at hl
  obtain⟨k,_,rfl⟩:=hl
  have h1:(grp n (Xmq h w) k).Pairwise Yhi:=(Ygf h).filter _
  refine List.Pairwise.imp_of_mem (λ{a b} ha hb hab=>Xta ?_ hab) h1
  have e1:lvF n a=k:=by simpa using (mem_filter.mp ha).2
  have e2:lvF n b=k:=by simpa using (mem_filter.mp hb).2
  rw[e1,e2]
 .rw [List.pairwise_reverse,List.pairwise_map]
  refine List.Pairwise.imp (λ{a b} hab x hx y hy=>Xu1 ?_) (List.pairwise_lt_range)
  have e1:lvF n x=b:=by simpa using (mem_filter.mp hx).2
  have e2:lvF n y=a:=by simpa using (mem_filter.mp hy).2
  omega
theorem Xhh {h w n:Nat}{p:Int×Int}(hp:p∈Xbz h w n):(0<=p.1/\p.1<h)/\0<=p.2/\p.2<w:=by
 unfold Xbz at hp
 obtain⟨l,hl,hp⟩:=List.mem_flatten.mp hp
 rw[mem_reverse,mem_map]at hl
 obtain⟨k,_,rfl⟩:=hl
 exact Xut.mp (mem_filter.mp hp).1
def Yi9:D->Bool
 | .int _=>true
 |_=>false
def Yfh (w:Int):D->Bool
 | .lst xs=>decide ((xs.length:Int)=w) && xs.all Yi9
 |_=>false
def Yct (n:Nat):Bool:=decide (1<=n) && decide (n<=64)
def Yhl:D->Bool
 | .lst (.lst r::rs)=>Yct (rs.length+1) && Yct r.length && (D.lst r::rs).all (Yfh r.length)
 |_=>false
def knD:D->Bool
 | .ty _=>false
 | .fn _=>false
 | .exc _=>false
 | .obj _ _ _=>false
 |_=>true
def okP (d:D):Prop:=knD d=true/\∀xs,d = .lst xs->xs.length<=1000/\∀x∈xs,knD x=true/\∀ys,x = .lst ys->ys.length<=1000/\∀y∈ys,knD y=true
abbrev Xjr:Stmt:=top 31
theorem Xr8:FnScope ["thing"] ["thing"] (Xaf Xjr):=by walk_at "S"
def Xfq:DSp:=λds P=>∃d,ds=[d]/\knD d=true/\P (.fz (.bl (Yi9 d)))
theorem Xsw {f:Addr}{fd:FuncData}(Df:DefAt K mg "is_number" Xjr f fd)(B:BltV mg)(KV:KitV K):
  Cal P w K mg base "is_number" 1 ["thing"] (spV K 1 Xfq):=by
 refine CalV.of Df Xr8 (by walk_at "b") rfl (λc A o s H E hr=>⟨_,_,(Xal (Xa1 (Xwi (Xay Xeu (by rfl) B.isinstance boot_isinstance (Xaa (pv 0) (Xaa (Xil (v:=.ty "int") (by rfl) B.int PyProof.Rows.boot_int (by rfl)) Xad))) (Xwe (Ykj (Xay Xeu (by rfl) B.isinstance boot_isinstance (Xaa (pv 0) (Xaa (Xil (v:=.ty "bool") (by rfl) B.bool PyProof.Rows.boot_bool (by rfl)) Xad)))))))),
  (Xa4 (Xbk (Xqo (Xb0 (Xmd KV) (Xai Xac (Xai (Xap Xsf) Xan))) (Yg7 (Xb0 (Xmd KV) (Xai Xac (Xai (Xap Xsf) Xan))))))),?_⟩)
 rintro ds Pr ⟨d,rfl,hk,k⟩
 cases d<;>first | (simp[knD]at hk;done) | (fin2;exact k)
abbrev Xuc:Stmt:=top 40
theorem Yc0:FnScope ["one","number"] ["one","number"] (Xaf Xuc):=by walk_at "S"
def Xi0:DSp:=λds P=>∃a b n:Int,ds=[.tup [.int a,.int b],.int n]/\P (.fz (.bl (decide (a<=n) && decide (n<=b))))
theorem Yd0 {f:Addr}{fd:FuncData}(Df:DefAt K mg "holds" Xuc f fd)(B:BltV mg)(KV:KitV K):
  Cal P w K mg base "holds" 1 ["one","number"] (spV K 2 Xi0):=by
 refine CalV.of Df Yc0 (by walk_at "b") rfl (λc A o s H E hr=>⟨_,_,(Xal (Xa1 (Xwh Ydv Ydv (Xax Xas (pv 0) Xaj (λ_ _=>rfl)) (pv 1) (Xax Xas (pv 0) Xaj (λ_ _=>rfl))))),
  (Xa4 (Xbk (Xv4 Xf9 Xf9 (Xbe (OpF.b Xar) Xac (Xap Xae)) Xac (Xbe (OpF.b Xar) Xac (Xap Xae))))),?_⟩)
 rintro ds Pr ⟨a,b,n,rfl,k⟩
 fin2
 by_cases h:a<=n
 .rw [if_pos h]
  rw[decide_eq_true h,Bool.true_and]at k
  exact k
 .rw [if_neg h]
  rw[decide_eq_false h,Bool.false_and]at k
  exact k
abbrev Xmv:Stmt:=top 63
theorem Xzh:FnScope ["thing","wide"] ["thing","wide"] (Xaf Xmv):=by walk_at "S"
def Xry:DSp:=λds P=>∃(d:D) (w:Int),ds=[d,.int w]/\knD d=true/\(∀xs,d = .lst xs->xs.length<=1000/\∀x∈xs,knD x=true)/\P (.fz (.bl (Yfh w d)))
theorem Xty {α:Type}{f:α->Bool}{xs:List α}:(xs.map f).all id=xs.all f:=by simp[List.all_map,Function.comp_def]
theorem Yay {f:Addr}{fd:FuncData}(Df:DefAt K mg "is_row" Xmv f fd)(B:BltV mg)(KV:KitV K)(Xco:Cal P w K mg base "is_number" 1 ["thing"] (spV K 1 Xfq)):
  Cal P w K mg base "is_row" 2 ["thing","wide"] (spV K 2 Xry):=by
 refine CalV.of Df Xzh (by walk_at "b") rfl (λc A o s H E hr=>⟨_,_,(Xah (Xcm (Xnt (Xdk (Xcr (Xay Xeu (by rfl) B.isinstance boot_isinstance (Xaa (pv 0) (Xaa (Xil (v:=.ty "list") (by rfl) B.list PyProof.Rows.boot_list (by rfl)) Xad))))) (Xkm (Xbq Xxv (Xay Xa2 (by rfl) B.len boot_len (Xaa (pv 0) Xad)) (pv 1) (Xbo _)))).pt (Xal (Xa1 Xkp)) Xbg)
   (Xal (Xa1 (Xay (Xgp rfl) (by rfl) B.all boot_all (Xaa (Xdy rfl (Xdw (pv 0)) (show BlkScope (Xaf Xmv) _ from⟨rfl,by decide +kernel,by decide +kernel,by decide +kernel⟩) (N:=["number"]) (ix:=[none]) (show Xd1 _ _ _ _ from trivial) (λ_ _ _=>(Xau (i:=0) (show List.Nodup (["number"]:List Str) by decide +kernel) rfl (Or.inl rfl))) (λ_ _ _=>(Xa0 Xco (hr.mono (by decide)) (by rfl) (Xaa (pv 0) Xad)))) Xad))))),
  (Xam (Xcl (Xnp (Xdj (Xmk (Xb0 (Xmd KV) (Xai Xac (Xai (Xap Xsf) Xan))))) (Xbp (Xaq Xx2 (Xap (Xb0 Xcx (Xai Xac Xan))) Xac))) (Xa4 (Xbk Xkk)) Xbf)
   (Xa4 (Xbk (Xb0 Xp7 (Xai (Xap (Xb4 (Xc6 (Xed Xag) Xav (Xat (Xab Xag Xak))))) Xan))))),?_⟩)
 rintro ds Pr ⟨d,w,rfl,hk,hx,k⟩
 cases d with
 |lst xs=>
  obtain⟨hl,hk2⟩:=hx xs rfl
  fin2
  simp only[Yfh]at k
  by_cases h:(xs.length:Int)=w
  .rw [decide_eq_true h]at k ⊢
   simp only[Bool.not_true,false_eq_true,if_false]
   rw[show xs=xs.map id by simp]
   refine Xme.map xs id (λx=>.fz (.bl (Yi9 x))) (by omega) (λx hx Q q=>?_) ?_
   .fin2
    exact⟨x,rfl,hk2 x hx,q⟩
   .fin2
    refine⟨xs.map Yi9,by simp only[map_map,Function.comp_def,OV.val],?_⟩
    rw[Xty]
    exact k
  .rw [decide_eq_false h]at k ⊢
   simp only[Bool.not_false,if_true]
   exact k
 |_=>first | (simp[knD]at hk;done) | (fin2;exact k)
abbrev Xfv:Stmt:=top 64
theorem Xqf:FnScope ["thing"] ["thing"] (Xaf Xfv):=by walk_at "S"
def Xkb:DSp:=λds P=>∃d:D,ds=[d]/\okP d/\P (.fz (.bl (Yhl d)))
theorem Ye4 {n:Nat}:(decide ((1:Int)<=(n:Int)) && decide ((n:Int)<=64))=Yct n:=by
 unfold Yct
 congr 1
 .exact decide_eq_decide.mpr (by omega)
 .exact decide_eq_decide.mpr (by omega)
theorem Xqz {f:Addr}{fd:FuncData}(Df:DefAt K mg "is_picture" Xfv f fd)(B:BltV mg)(KV:KitV K)(Xrb:Ygg K mg "SIZES" (D.tup [.int 1,.int 64]))(Xej:Cal P w K mg base "holds" 1 ["one","number"] (spV K 2 Xi0))(Xrj:Cal P w K mg base "is_row" 2 ["thing","wide"] (spV K 2 Xry)):
  Cal P w K mg base "is_picture" 3 ["thing"] (spV K 1 Xkb):=by
 refine CalV.of Df Xqf (by walk_at "b") rfl (λc A o s H E hr=>⟨_,_,(Xah (Xcm (Xnt (Xdk (Xcr (Xay Xeu (by rfl) B.isinstance boot_isinstance (Xaa (pv 0) (Xaa (Xil (v:=.ty "list") (by rfl) B.list PyProof.Rows.boot_list (by rfl)) Xad))))) (Xkm (Xdk (Xcr (Xa0 Xej (hr.mono (by decide)) (by rfl) (Xaa (Xhi (by rfl) Xrb) (Xaa (Xay Xa2 (by rfl) B.len boot_len (Xaa (pv 0) Xad)) Xad))))))).pt (Xal (Xa1 Xkp)) Xbg)
   (Xah (Xcm (Xnt (Xdk (Xcr (Xay Xeu (by rfl) B.isinstance boot_isinstance (Xaa (Xax Xbr (pv 0) Xaj (λ_ _=>rfl)) (Xaa (Xil (v:=.ty "list") (by rfl) B.list PyProof.Rows.boot_list (by rfl)) Xad))))) (Xkm (Xdk (Xcr (Xa0 Xej (hr.mono (by decide)) (by rfl) (Xaa (Xhi (by rfl) Xrb) (Xaa (Xay Xa2 (by rfl) B.len boot_len (Xaa (Xax Xbr (pv 0) Xaj (λ_ _=>rfl)) Xad)) Xad))))))).pt (Xal (Xa1 Xkp)) Xbg)
   (Xal (Xa1 (Xay (Xgp rfl) (by rfl) B.all boot_all (Xaa (Xdy rfl (Xdw (pv 0)) (show BlkScope (Xaf Xfv) _ from⟨rfl,by decide +kernel,by decide +kernel,by decide +kernel⟩) (N:=["row","thing"]) (ix:=[none,some 0]) (show Xd1 _ _ _ _ from⟨⟨rfl,rfl,.inl rfl⟩,trivial⟩) (λ_ _ _=>(Xau (i:=0) (show List.Nodup (["row","thing"]:List Str) by decide +kernel) rfl (Or.inl rfl))) (λ_ _ _=>(Xa0 Xrj (hr.mono (by decide)) (by rfl) (Xaa (pv 0) (Xaa (Xay Xa2 (by rfl) B.len boot_len (Xaa (Xax Xbr (pv 1) Xaj (λ_ _=>rfl)) Xad)) Xad))))) Xad)))))),
  (Xam (Xcl (Xnp (Xdj (Xmk (Xb0 (Xmd KV) (Xai Xac (Xai (Xap Xsf) Xan))))) (Xdj (Xmk (Xb4 (Xat (Xab Xuf (Xab (Xb0 Xcx (Xai Xac Xan)) Xak))))))) (Xa4 (Xbk Xkk)) Xbf)
   (Xam (Xcl (Xnp (Xdj (Xmk (Xb0 (Xmd KV) (Xai (Xbe (OpF.b Xch) Xac (Xap Xae)) (Xai (Xap Xsf) Xan))))) (Xdj (Xmk (Xb4 (Xat (Xab Xuf (Xab (Xb0 Xcx (Xai (Xbe (OpF.b Xch) Xac (Xap Xae)) Xan)) Xak))))))) (Xa4 (Xbk Xkk)) Xbf)
   (Xa4 (Xbk (Xb0 Xp7 (Xai (Xap (Xb4 (Xc6 (Xed Xag) Xav (Xat (Xab Xag (Xab (Xb0 Xcx (Xai (Xbe (OpF.b Xch) Xac (Xap Xae)) Xan)) Xak)))))) Xan)))))),?_⟩)
 rintro ds Pr ⟨d,rfl,⟨hk,hx⟩,k⟩
 cases d with
 |lst xs=>
  obtain⟨hl,hk2⟩:=hx xs rfl
  fin2
  refine⟨1,64,_,rfl,?_⟩
  fin2
  rw[Ye4]
  cases xs with
  |nil=>exact k
  |cons x rs=>
   rw[show (x::rs).length=rs.length+1 from rfl]
   have kx:=hk2 x mem_cons_self
   by_cases hs:Yct (rs.length+1)=true
   .rw [hs]
    simp only[Bool.not_true,false_eq_true,if_false]
    refine⟨x,Xw7,?_⟩
    cases x with
    |lst r=>
     fin2
     refine⟨1,64,_,rfl,?_⟩
     fin2
     rw[Ye4]
     simp only[Yhl,hs,Bool.true_and]at k
     by_cases hr:Yct r.length=true
     .rw [hr]
      rw[hr,Bool.true_and]at k
      simp only[Bool.not_true,false_eq_true,if_false]
      rw[show D.lst r::rs=(D.lst r::rs).map id by simp]
      refine Xme.map (D.lst r::rs) id (λx=>.fz (.bl (Yfh r.length x))) (by simp at hl ⊢;omega) (λx hx' Q q=>?_) ?_
      .fin2
       have:=hk2 x (by simpa using hx')
       simp only[List.map_id_fun',id_eq,map_cons,map_id,Xw7]
       exact⟨x,_,rfl,this.1,this.2,q⟩
      .fin2
       refine⟨(D.lst r::rs).map (Yfh r.length),by simp only[map_map,map_cons,Function.comp_def,OV.val],?_⟩
       rw[Xty]
       exact k
     .have hr':Yct r.length=false:=by simpa using hr
      rw[hr']
      rw[hr',Bool.false_and]at k
      simp only[Bool.not_false,if_true]
      exact k
    |_=>
     have kx1:=kx.1
     simp only[Yhl]at k
     first | (simp[knD]at kx1;done) | (fin2;exact k)
   .have hs':Yct (rs.length+1)=false:=by simpa using hs
    rw[hs']
    simp only[Bool.not_false,if_true]
    cases x<;>simp only[Yhl,hs',Bool.false_and]at k<;>exact k
 |_=>first | (simp[knD]at hk;done) | (fin2;exact k)
theorem Yi5 {xs:List Int}:(xs.map D.int).all Yi9=true:=by simp[Yi9]
theorem Xv6 {w:Nat}{f:Nat->Int}:(tab w λj=>D.int (f j))=(tab w f).map D.int:=by rw[Xgu]
theorem Xz2 {xs:List Int}{w:Int}:Yfh w (.lst (xs.map D.int))=decide ((xs.length:Int)=w):=by
 simp only[Yfh,Yi5,Bool.and_true,length_map]
theorem Yaf {h w:Nat}{e:Nat->Nat->Int}(h0:0<h)(w0:0<w):Yhl (.lst (shV D.int h w e))=(decide (h<=64) && decide (w<=64)):=by
 obtain⟨h',rfl⟩:∃h',h=h'+1:=⟨h-1,by omega⟩
 have e1:shV D.int (h'+1) w e=D.lst (tab w λj=>D.int (e 0 j))::(List.range h').map λi=>D.lst (tab w λj=>D.int (e (i+1) j)):=by
  unfold shV
  conv=>lhs;unfold tab
  rw[List.range_succ_eq_map,map_cons,map_map]
  rfl
 have e2:(shV D.int (h'+1) w e).all (Yfh w)=true:=by
  rw[all_eq_true]
  intro x hx
  obtain⟨i,_,rfl⟩:=mem_map.mp hx
  rw[Xv6,Xz2,Xa7]
  simp
 rw[e1]at e2 ⊢
 simp only[Yhl,Xa7,e2,Bool.and_true,length_map,length_range]
 unfold Yct
 rw[decide_eq_true (show 1<=h'+1 by omega),decide_eq_true (show 1<=w by omega),Bool.true_and,Bool.true_and]
theorem Yd2 {xs:List D}(hl:xs.length<=1000)(h:∀x∈xs,knD x=true/\∀ys,x = .lst ys->ys.length<=1000/\∀y∈ys,knD y=true):okP (.lst xs):=⟨rfl,λxs' e=>by cases e;exact⟨hl,h⟩⟩
theorem Ykr {ls:List Int}(hl:ls.length<=1000):knD (D.lst (ls.map D.int))=true/\∀ys,D.lst (ls.map D.int) = .lst ys->ys.length<=1000/\∀y∈ys,knD y=true:=⟨rfl,λys e=>by
 cases e
 refine⟨by simpa using hl,λy hy=>?_⟩
 obtain⟨i,_,rfl⟩:=mem_map.mp hy
 rfl⟩
theorem Ya1 {h w:Nat}{e:Nat->Nat->Int}(hh:h<=100)(hw:w<=100):okP (.lst (shV D.int h w e)):=by
 refine Yd2 (by rw[shV,Xa7];omega) λy hy=>?_
 obtain⟨k,_,rfl⟩:=mem_map.mp hy
 rw[Xv6]
 exact Ykr (by rw[Xa7];omega)
def Xh1:DSp:=λ_ _=>False
abbrev Xjq:Stmt:=top 52
theorem Xr7:FnScope ["name"] ["name"] (Xaf Xjq):=by walk_at "S"
theorem Xsv {f:Addr}{fd:FuncData}(Df:DefAt K mg "ladder_of" Xjq f fd):
  Cal P w K mg base "ladder_of" 1 ["name"] (spV K 1 Xh1):=by
 refine CalV.never (sp:=Xh1) Df Xr7 (by walk_at "b") rfl ?_
 exact λds Pr h=>h.elim
def Xpg:DSp:=λds P=>∃f:Lf,ds=[lfD f]/\f.Ok/\P (.fz (.bl true))
def Xh2:DSp:=λds P=>∃fs:List Lf,ds=[Xge fs]/\fs.length<=6/\(∀f∈fs,f.Ok)/\P (.fz (.bl true))
def Xle:DSp:=λds P=>∃n at':Nat,ds=[.int n,.int at']/\((at'=0/\1<=n/\n<=64)∨(at'=1/\1<=n/\n<=64)∨(at'=2/\n<=6)∨(at'=3/\n<=4000))/\P (.fz (.bl true))
def Xex (h w:Nat)(e:Nat->Nat->Int)(fs:List Lf)(L:Nat):List Int:=(Xbz h w L).map λp=>Xrr 0 (λk=>Xbs fs (2^k:Nat)) h w L e p.1.toNat p.2.toNat
def Xvy:DSp:=λds P=>∃(h w:Nat) (e:Nat->Nat->Int) (fs:List Lf) (L b:Nat),ds=[shI h w e,Xge fs,.int L]/\fs.length<=6/\(∀f∈fs,f.Ok)/\L<=6/\0<h/\h<=64/\0<w/\w<=64/\b<=4000/\(∀x∈Xex h w e fs L,ibN x<=b)/\3*(h*w)*b<=900000/\
 ∀(n:Nat) (bs:List Bool) (v:Wk),(∃x∈Xex h w e fs L,ibN x=n)->(∀x∈Xex h w e fs L,ibN x<=n)->n<=b->Tell (Xex h w e fs L) (Wk.turn ⟨n,0,[],[⟨0,0,(Xex h w e fs L).length,1-2^n,2^n-1⟩],[]⟩) bs->Fol (Wk.turn ⟨n,0,[],[⟨0,0,(Xex h w e fs L).length,1-2^n,2^n-1⟩],[]⟩) bs v->v.pl<0->Shp (Xex h w e fs L).length v->Xd4 (Xex h w e fs L) v->v.us=bs.length->bs.length<=900000->
  P (.fz (.tup [.tup [.int h,.int w,.int L,.int n,Xge fs],.str (Xbv bs)]))
abbrev Xkh:Stmt:=top 50
theorem Xxk:FnScope ["thing"] ["thing"] (Xaf Xkh):=by walk_at "S"
abbrev Xg7:Stmt:=top 51
theorem Xr9:FnScope ["thing"] ["thing"] (Xaf Xg7):=by walk_at "S"
abbrev Xno:Stmt:=top 79
theorem Xxj:FnScope ["thing","at"] ["thing","at"] (Xaf Xno):=by walk_at "S"
abbrev Xql:Stmt:=top 83
theorem Xg2:FnScope ["picture","ladder","levels","lifts","wave","high","wide","numbers","planes"] ["picture","ladder","levels"] (Xaf Xql):=by walk_at "S"
def trD (q:Int×Int×Int):D:=.tup [.int q.1,.tup [.int q.2.1,.int q.2.2]]
theorem Xx0 {f:Addr}{fd:FuncData}(Df:DefAt K mg "is_lift" Xkh f fd)(B:BltV mg)(KV:KitV K)(Xfx:Ygg K mg "PART_SPANS" (D.tup [.tup [.int 0,.int 1],.tup [.int (-8),.int 8],.tup [.int (-8),.int 8],.tup [.int (-64),.int 64],.tup [.int 0,.int 8]]))(Xco:Cal P w K mg base "is_number" 1 ["thing"] (spV K 1 Xfq))(Xej:Cal P w K mg base "holds" 1 ["one","number"] (spV K 2 Xi0)):
  Cal P w K mg base "is_lift" 2 ["thing"] (spV K 1 Xpg):=by
 refine CalV.of Df Xxk (by walk_at "b") rfl (λc A o s H E hr=>⟨_,_,(Xah (Xcm (Xnt (Xdk (Xcr (Xay Xeu (by rfl) B.isinstance boot_isinstance (Xaa (pv 0) (Xaa (Xil (v:=.ty "tuple") (by rfl) B.tuple PyProof.Rows.boot_tuple (by rfl)) Xad))))) (Xkm (Xbq Xxv (Xay Xa2 (by rfl) B.len boot_len (Xaa (pv 0) Xad)) (Xay Xa2 (by rfl) B.len boot_len (Xaa (Xhi (by rfl) Xfx) Xad)) (Xbo _)))).pt (Xal (Xa1 Xkp)) Xbg)
   (Xal (Xa1 (Xay (Xgp rfl) (by rfl) B.all boot_all (Xaa (Xdy rfl (Yhm rfl B.zip (Xaa (pv 0) (Xaa (Xhi (by rfl) Xfx) Xad))) (show BlkScope (Xaf Xkh) _ from⟨rfl,by decide +kernel,by decide +kernel,by decide +kernel⟩) (N:=["part","span"]) (ix:=[none,none]) (show Xd1 _ _ _ _ from trivial) (λ_ _ _=>(Xgl (n:=2) rfl (Xbc (Xau (i:=0) (show List.Nodup (["part","span"]:List Str) by decide +kernel) rfl (Or.inl rfl)) (Xbc (Xau (i:=1) (show List.Nodup (["part","span"]:List Str) by decide +kernel) rfl (Or.inl rfl)) Xeg)))) (λ_ _ _=>(Xwi (Xa0 Xco (hr.mono (by decide)) (by rfl) (Xaa (pv 0) Xad)) (Xwe (Xa0 Xej (hr.mono (by decide)) (by rfl) (Xaa (pv 1) (Xaa (pv 0) Xad))))))) Xad))))),
  (Xam (Xcl (Xnp (Xdj (Xmk (Xb0 (Xmd KV) (Xai Xac (Xai (Xap Xsf) Xan))))) (Xbp (Xaq Xx2 (Xap (Xb0 Xcx (Xai Xac Xan))) (Xap (Xb0 Xcx (Xai (Xap Xuf) Xan)))))) (Xa4 (Xbk Xkk)) Xbf)
   (Xa4 (Xbk (Xb0 Xp7 (Xai (Xap (Xb4 (Xc6 (Yg4 (Xab Xag (Xab Xuf Xak))) (Xgk (Xbb Xav (Xbb Xav Xee))) (Xbk (Xqo (Xb4 (Xat (Xab Xag Xak))) (Xb4 (Xat (Xab Xag (Xab Xag Xak))))))))) Xan))))),?_⟩)
 rintro ds Pr ⟨f,rfl,ok,h⟩
 unfold lfD
 fin2
 have ez:List.map (λ(p:D×D)=>D.tup [p.fst,p.snd]) ([D.int f.h,D.int f.l,D.int f.r,D.int f.a,D.int f.s].zip [D.tup [D.int 0,D.int 1],D.tup [D.int (-8),D.int 8],D.tup [D.int (-8),D.int 8],D.tup [D.int (-64),D.int 64],D.tup [D.int 0,D.int 8]])=[(f.h,0,1),(f.l,-8,8),(f.r,-8,8),(f.a,-64,64),(f.s,0,8)].map trD:=rfl
 rw[ez]
 have hq:∀q∈[(f.h,(0:Int),(1:Int)),(f.l,-8,8),(f.r,-8,8),(f.a,-64,64),(f.s,0,8)],q.2.1<=q.1/\q.1<=q.2.2:=by
  intro q hq
  simp only[mem_cons,not_mem_nil,or_false]at hq
  have h1:=ok.h
  rcases hq with rfl |rfl |rfl |rfl |rfl
  .exact ⟨by show 0<=f.h;omega,by show f.h<=1;omega⟩
  .exact ok.l
  .exact ok.r
  .exact ok.a
  .exact ok.s
 generalize hqs:[(f.h,(0:Int),(1:Int)),(f.l,-8,8),(f.r,-8,8),(f.a,-64,64),(f.s,0,8)]=qs at hq
 have hql:qs.length<=5:=by rw[<- hqs];exact Nat.le_refl 5
 refine⟨λi M ts=>∃o0 o1:Option Sl,M=[o0,o1]/\ts=(qs.take i).map λ_=>.fz (.bl true),⟨none,none,rfl,rfl⟩,?_,?_⟩
 .rintro i d M ts hd ⟨o0,o1,rfl,rfl⟩
  obtain⟨q,hq',rfl⟩:=Xs6 hd
  have hb:=hq q (mem_of_getElem? hq')
  simp only[trD,gT,Xhr,Xoh,gN,length_cons,length_nil,Nat.reduceAdd,true_and,set_cons_succ,set_cons_zero]
  fin2
  refine⟨by rw[length_take];omega,_,rfl,rfl,?_⟩
  show if true=true then _ else _
  rw[if_pos rfl]
  refine⟨_,_,_,rfl,?_⟩
  rw[decide_eq_true hb.1,decide_eq_true hb.2]
  refine⟨some (Sl.own (OV.fz (D.int q.1))),some (Sl.own (OV.fz (D.tup [D.int q.2.1,D.int q.2.2]))),rfl,?_⟩
  rw[take_add_one,hq',map_append]
  rfl
 .rintro M ts ⟨o0,o1,rfl,rfl⟩
  fin2
  refine⟨qs.map λ_=>true,by rw[take_length,map_map,map_map];rfl,?_⟩
  rw[show (qs.map λ_=>true).all id=true by simp]
  exact h
theorem Xsx {f:Addr}{fd:FuncData}(Df:DefAt K mg "is_ladder" Xg7 f fd)(B:BltV mg)(KV:KitV K)(Xip:∃t,mg "MOST_LIFTS"=some (.int 6 t))(Xoo:Cal P w K mg base "is_lift" 2 ["thing"] (spV K 1 Xpg)):
  Cal P w K mg base "is_ladder" 3 ["thing"] (spV K 1 Xh2):=by
 refine CalV.of Df Xr9 (by walk_at "b") rfl (λc A o s H E hr=>⟨_,_,(Xah (Xcm (Xnt (Xdk (Xcr (Xay Xeu (by rfl) B.isinstance boot_isinstance (Xaa (pv 0) (Xaa (Xil (v:=.ty "tuple") (by rfl) B.tuple PyProof.Rows.boot_tuple (by rfl)) Xad))))) (Xkm (Xbq Yhs (Xay Xa2 (by rfl) B.len boot_len (Xaa (pv 0) Xad)) (Xao (by rfl) Xip) (Xbo _)))).pt (Xal (Xa1 Xkp)) Xbg)
   (Xal (Xa1 (Xay (Xgp rfl) (by rfl) B.all boot_all (Xaa (Xdy rfl (Yfp (pv 0)) (show BlkScope (Xaf Xg7) _ from⟨rfl,by decide +kernel,by decide +kernel,by decide +kernel⟩) (N:=["lift"]) (ix:=[none]) (show Xd1 _ _ _ _ from trivial) (λ_ _ _=>(Xau (i:=0) (show List.Nodup (["lift"]:List Str) by decide +kernel) rfl (Or.inl rfl))) (λ_ _ _=>(Xa0 Xoo (hr.mono (by decide)) (by rfl) (Xaa (pv 0) Xad)))) Xad))))),
  (Xam (Xcl (Xnp (Xdj (Xmk (Xb0 (Xmd KV) (Xai Xac (Xai (Xap Xsf) Xan))))) (Xbp (Xaq Xf9 (Xap (Xb0 Xcx (Xai Xac Xan))) (Xap Xae)))) (Xa4 (Xbk Xkk)) Xbf)
   (Xa4 (Xbk (Xb0 Xp7 (Xai (Xap (Xb4 (Xc6 (Yfd Xag) Xav (Xat (Xab Xag Xak))))) Xan))))),?_⟩)
 rintro ds Pr ⟨fs,rfl,hl,ok,h⟩
 unfold Xge
 fin2
 rw[if_neg (by omega)]
 refine Xme.map fs lfD (λ_=>.fz (.bl true)) (by omega) (λf hf Q q=>?_) ?_
 .fin2
  exact⟨f,rfl,ok f hf,q⟩
 fin2
 refine⟨fs.map λ_=>true,by simp only[map_map,Function.comp_def,OV.val],?_⟩
 rw[show (fs.map λ_=>true).all id=true by simp]
 exact h
theorem Xxz {f:Addr}{fd:FuncData}(Df:DefAt K mg "is_part" Xno f fd)(B:BltV mg)(KV:KitV K)(Xcg:Ygg K mg "NUMBER_SPANS" (D.tup [.tup [.int 1,.int 64],.tup [.int 1,.int 64],.tup [.int 0,.int 6],.tup [.int 0,.int 4000]]))(Xco:Cal P w K mg base "is_number" 1 ["thing"] (spV K 1 Xfq))(Xej:Cal P w K mg base "holds" 1 ["one","number"] (spV K 2 Xi0)):
  Cal P w K mg base "is_part" 2 ["thing","at"] (spV K 2 Xle):=by
 refine CalV.of Df Xxj (by walk_at "b") rfl (λc A o s H E hr=>⟨_,_,(Xal (Xa1 (Xwi (Xa0 Xco (hr.mono (by decide)) (by rfl) (Xaa (pv 0) Xad)) (Xwe (Xa0 Xej (hr.mono (by decide)) (by rfl) (Xaa (Xax Xas (Xhi (by rfl) Xcg) (pv 1) (λ_ _=>rfl)) (Xaa (pv 0) Xad))))))),
  (Xa4 (Xbk (Xqo (Xb4 (Xat (Xab Xag Xak))) (Xb4 (Xat (Xab (Xbj Xar Xuf Xag) (Xab Xag Xak))))))),?_⟩)
 rintro ds Pr ⟨n,at',rfl,hn,h⟩
 have key:∀(lo hi:Int),lo<=n->n<=hi->atI [D.tup [D.int 1,D.int 64],D.tup [D.int 1,D.int 64],D.tup [D.int 0,D.int 6],D.tup [D.int 0,D.int 4000]] (at':Int)=some (.tup [.int lo,.int hi])->∃d,atI [D.tup [D.int 1,D.int 64],D.tup [D.int 1,D.int 64],D.tup [D.int 0,D.int 6],D.tup [D.int 0,D.int 4000]] (at':Int)=some d/\Xi0 [d,.int n] λr=>Pr (.fz r.val):=λlo hi h1 h2 e=>by
  refine⟨_,e,lo,hi,n,rfl,?_⟩
  rw[decide_eq_true h1,decide_eq_true h2]
  exact h
 fin2
 refine⟨_,rfl,rfl,?_⟩
 show if true=true then _ else _
 rw[if_pos rfl]
 rcases hn with⟨rfl,h1,h2⟩ | ⟨rfl,h1,h2⟩ | ⟨rfl,h2⟩ | ⟨rfl,h2⟩
 .exact key 1 64 (by omega) (by omega) rfl
 .exact key 1 64 (by omega) (by omega) rfl
 .exact key 0 6 (by omega) (by omega) rfl
 .exact key 0 4000 (by omega) (by omega) rfl
theorem Yd1 {f:Addr}{fd:FuncData}{T:Addr}{tk1:Tok}(Df:DefAtD K mg "coded" Xql f fd T #[.none,.int 2 tk1])(B:BltV mg)(KV:KitV K)(Xer:∃t,mg "LEVELS"=some (.int 2 t))(Xiw:Cal P w K mg base "is_picture" 3 ["thing"] (spV K 1 Xkb))(Xj1:Cal P w K mg base "ladder_of" 1 ["name"] (spV K 1 Xh1))(Xei:Cal P w K mg base "is_ladder" 3 ["thing"] (spV K 1 Xh2))(Xgs:Cal P w K mg base "is_part" 2 ["thing","at"] (spV K 2 Xle))(Yb8:Cal P w K mg base "laid" 5 ["picture","ladder","levels"] (spV K 3 Xy9))(Xi6:Cal P w K mg base "places" 2 ["high","wide","levels"] (spV K 3 Xne))(Xj0:Cal P w K mg base "planes_of" 2 ["some"] (spV K 1 Xl3))(Yb6:Cal P w K mg base "told" 5 ["some","planes"] (spV K 2 Xy6)):
  CalD P w K mg base "coded" 6 ["picture","ladder","levels"] (spV K 3 Xvy) [.non,.int 2]:=by
 refine CalVD.of (ds:=[.none,.int 2 tk1]) Df Xg2 (λ_ _ _ _ _ _ us hl=>match us,hl with | [_,_,_],_=>⟨_,rfl,rfl⟩) (λ_ _ _ _ _ _ us hl=>by have hl':us.length=1:=(by simpa using hl);exact match us,hl' with | [_],_=>⟨_,rfl,rfl⟩) (.cons rfl (.cons ⟨_,rfl⟩ (.nil))) rfl (λc A o s H E hr=>⟨_,_,(Xah (Xcm (Xdk (Xcr (Xa0 Xiw (hr.mono (by decide)) (by rfl) (Xaa (pv 0) Xad)))) (Xal Xhg) Xbg)
   (Xah (Xa9 (i:=3) Xg2.nd rfl (Or.inl rfl) (Xwg (Xbq Ykn (pv 1) Xwf (Xbo _)) (Xa0 Xj1 (hr.mono (by decide)) (by rfl) (Xaa Xij Xad)) (pv 1)))
   (Xah (Xcm (Xdk (Xcr (Xa0 Xei (hr.mono (by decide)) (by rfl) (Xaa (pv 3) Xad)))) (Xal Xhg) Xbg)
   (Xah (Xcm (Xdk (Xcr (Xa0 Xgs (hr.mono (by decide)) (by rfl) (Xaa (pv 2) (Xaa (Xao (by rfl) Xer) Xad))))) (Xal Xhg) Xbg)
   (Xah (Xa9 (i:=4) Xg2.nd rfl (Or.inr rfl) (Xa0 Yb8 (hr.mono (by decide)) (by rfl) (Xaa (pv 0) (Xaa (pv 3) (Xaa (pv 2) Xad)))))
   (Xah (Xa9 (i:=5) Xg2.nd rfl (Or.inl rfl) (Xay Xa2 (by rfl) B.len boot_len (Xaa (pv 0) Xad)))
   (Xah (Xa9 (i:=6) Xg2.nd rfl (Or.inl rfl) (Xay Xa2 (by rfl) B.len boot_len (Xaa (Xax Xbr (pv 0) Xaj (λ_ _=>rfl)) Xad)))
   (Xah (Xlk (i:=7) Xg2.nd rfl (Or.inl rfl) rfl (Xdw (Xa0 Xi6 (hr.mono (by decide)) (by rfl) (Xaa (pv 5) (Xaa (pv 6) (Xaa (pv 2) Xad))))) (show BlkScope (Xaf Xql) _ from⟨rfl,by decide +kernel,by decide +kernel,by decide +kernel⟩) (N:=["i","j","wave"]) (ix:=[none,none,some 4]) (show Xd1 _ _ _ _ from⟨⟨rfl,rfl,.inl rfl⟩,trivial⟩) (λ_ _ _=>(Xgl (n:=2) rfl (Xbc (Xau (i:=0) (show List.Nodup (["i","j","wave"]:List Str) by decide +kernel) rfl (Or.inl rfl)) (Xbc (Xau (i:=1) (show List.Nodup (["i","j","wave"]:List Str) by decide +kernel) rfl (Or.inl rfl)) Xeg)))) (λ_ _ _=>(Xax Xbr (Xax Xbr (pv 2) (pv 0) (λ_ _=>rfl)) (pv 1) (λ_ _=>rfl))))
   (Xah (Xa9 (i:=8) Xg2.nd rfl (Or.inl rfl) (Xa0 Xj0 (hr.mono (by decide)) (by rfl) (Xaa (pv 7) Xad)))
   (Xal (Xa1 (Xbd (Xaa (Xbd (Xaa (pv 5) (Xaa (pv 6) (Xaa (pv 2) (Xaa (pv 8) (Xaa (pv 3) Xad)))))) (Xaa (Xa0 Yb6 (hr.mono (by decide)) (by rfl) (Xaa (pv 7) (Xaa (pv 8) Xad))) Xad)))))))))))))),
  (Xam (Xcl (Xdj (Xmk (Xb4 (Xat (Xab Xag Xak))))) Xhd Xbf)
   (Xam (Xa8 (Xbk (Yj1 (Xbp (Xaq Ykt Xac (Xap Xv3))) (Xb4 (Xat (Xab Xif Xak))) Xag)))
   (Xam (Xcl (Xdj (Xmk (Xb4 (Xat (Xab Xag Xak))))) Xhd Xbf)
   (Xam (Xcl (Xdj (Xmk (Xb4 (Xat (Xab Xag (Xab Xae Xak)))))) Xhd Xbf)
   (Xam (Xa8 (Xbk (Xb4 (Xat (Xab Xag (Xab Xag (Xab Xag Xak)))))))
   (Xam (Xa8 (Xbk (Xb0 Xcx (Xai Xac Xan))))
   (Xam (Xa8 (Xbk (Xb0 Xcx (Xai (Xbe (OpF.b Xch) Xac (Xap Xae)) Xan))))
   (Xam (Xa8 (Xbk (Xb4 (Xc6 (Xed (Xb4 (Xat (Xab Xag (Xab Xag (Xab Xag Xak)))))) (Xgk (Xbb Xav (Xbb Xav Xee))) (Xbk (Xbj Xch (Xbj Xch Xag Xag) Xag))))))
   (Xam (Xa8 (Xbk (Xb4 (Xat (Xab Xag Xak)))))
   (Xa4 (Xbk (Xbx (Xab (Xbx (Xab Xag (Xab Xag (Xab Xag (Xab Xag (Xab Xag Xak)))))) (Xab (Xb4 (Xat (Xab Xag (Xab Xag Xak)))) Xak)))))))))))))),?_⟩)
 rintro ds Pr ⟨h,w,e,fs,L,b,rfl,hl,ok,hL,h0,hh,w0,hw,hb,hxb,hmul,k⟩
 gn_on
 refine⟨_,rfl,Ya1 (by omega) (by omega),?_⟩
 have hpic:Yhl (shI h w e)=true:=by
  unfold shI
  rw[Yaf h0 w0,decide_eq_true hh,decide_eq_true hw]
  rfl
 rw[hpic]
 show if (!true)=true then _ else _
 rw[if_neg (by decide)]
 gp_on
 gn_on
 rw[if_neg (by unfold Xge;exact Bool.false_ne_true)]
 gp_on
 gn_on
 refine⟨fs,rfl,hl,ok,?_⟩
 show if (!true)=true then _ else _
 rw[if_neg (by decide)]
 gp_on
 gn_on
 refine⟨L,2,rfl,.inr (.inr (.inl ⟨rfl,hL⟩)),?_⟩
 show if (!true)=true then _ else _
 rw[if_neg (by decide)]
 gp_on
 gn_on
 refine⟨h,w,e,fs,L,rfl,ok,hL,h0,by omega,by omega,?_⟩
 fin2
 rw[Xdf]
 gp_on
 unfold shI
 gn_on
 gp_on
 gn_on
 have hat:atI (shV D.int h w e) 0=some (.lst (tab w λj=>D.int (e 0 j))):=by
  unfold shV
  exact Xl0 (by decide) (by omega)
 have hlen:(shV D.int h w e).length=h:=by unfold shV;exact Xa7
 refine⟨_,hat,?_⟩
 fin2
 rw[hlen,Xa7]
 gp_on
 gn_on
 refine⟨h,w,L,rfl,⟨by omega,by omega,by omega⟩,?_⟩
 have hpl:=Xef (h:=h) (w:=w) (n:=L)
 have hmem:∀p∈Xbz h w L,(0<=p.1/\p.1<h)/\0<=p.2/\p.2<w:=λp hp=>Xhh hp
 have hhw:h*w<=4096:=mul_le_mul hh hw
 have hhw0:0<h*w:=mul_pos h0 w0
 fin2
 have ev:List.map OV.val (List.map (λp=>OV.fz (ptD p)) (Xbz h w L))=(Xbz h w L).map ptD:=by rw[map_map];rfl
 rw[ev]
 unfold Xex at k hxb
 generalize hlay:Xrr 0 (λk=>Xbs fs ((2^k:Nat):Int)) h w L e=ly at k hxb
 generalize Xbz h w L=ps at k hpl hmem hxb
 refine⟨λi M ts=>∃o0 o1:Option Sl,M=[o0,o1,vD (.lst (shV D.int h w ly))]/\ts=(ps.take i).map λp=>.fz (.int (ly p.1.toNat p.2.toNat)),⟨none,none,rfl,rfl⟩,?_,?_⟩
 .rintro i d M ts hd ⟨o0,o1,rfl,rfl⟩
  obtain⟨p,hp,rfl⟩:=Xs6 hd
  have hi:=(List.getElem?_eq_some_iff.mp hp).1
  obtain⟨⟨p0,p1⟩,p2,p3⟩:=hmem p (mem_of_getElem? hp)
  simp only[ptD,gT,Xhr,Xoh,gN,length_cons,length_nil,Nat.reduceAdd,true_and,set_cons_succ,set_cons_zero]
  fin2
  have hr1:atI (shV D.int h w ly) p.1=some (.lst (tab w λj=>D.int (ly p.1.toNat j))):=by unfold shV;exact Xl0 p0 p1
  refine⟨by rw[length_take];(clear hl hL hb hmul hlen p0 p1 p2 p3;omega),_,hr1,?_⟩
  refine⟨_,Xl0 p2 p3,?_⟩
  refine⟨some (Sl.own (OV.fz (D.int p.1))),some (Sl.own (OV.fz (D.int p.2))),rfl,?_⟩
  rw[take_add_one,hp,map_append]
  rfl
 .rintro M ts ⟨o0,o1,rfl,rfl⟩
  rw[length_map,take_length]
  fin2
  have exs:(List.map OV.val (ps.map λp=>OV.fz (.int (ly p.1.toNat p.2.toNat))))=(ps.map λp=>ly p.1.toNat p.2.toNat).map D.int:=by rw[map_map,map_map];rfl
  rw[exs]
  have hxl:(ps.map λp=>ly p.1.toNat p.2.toNat).length=h*w:=by rw[length_map,hpl]
  generalize (ps.map λp=>ly p.1.toNat p.2.toNat)=xs at k hxl hxb
  gp_on
  gn_on
  refine⟨xs,rfl,by omega,by omega,λn hn1 hn2=>?_⟩
  gp_on
  have hn0:n<=b:=by
   obtain⟨x,hx,e⟩:=hn1
   rw[<- e];exact hxb x hx
  have hlt:∀x∈xs,x.natAbs<2^n:=λx hx=>Nat.lt_of_not_le λz=>by
   have:=Xyd.mp z
   have:=hn2 x hx
   omega
  obtain⟨q1,q2,q3,q4⟩:=Xnb xs.length n
  obtain⟨bs,v,t1,t2,t3,t4,t5,t6,t7⟩:=Yco (xs:=xs) rfl (by (clear hl hL hb hmul hlen hn0;omega)) (by (clear hl hL hb hmul hlen hn0;omega)) _ _ (Nat.le_refl _) (Xna (by (clear hl hL hb hmul hlen hn0;omega)) n) (Xxd hlt) (by omega) (by rw[q2,length_nil];omega)
  have hbs:bs.length<=900000:=by
   have:3*xs.length*n<=3*(h*w)*b:=by rw[hxl];exact mul_le_mul_left _ hn0
   clear hl hL hlen hpl;omega
  fin2
  refine⟨xs,n,bs,rfl,by omega,by omega,hbs,t1,?_⟩
  exact k n bs v hn1 hn2 hn0 t1 t2 t3 t4 t5 (by rw[t7,q3];(clear hl hlen hpl t3 t7;omega)) hbs
theorem Yh4 {fs:List Lf}(ok:∀f∈fs,f.Ok){h w b:Nat}(hb:6<=b){e:Nat->Nat->Int}(he:∀i j,-2^b<=e i j/\e i j<=2^b)(L:Nat):∀x∈Xex h w e fs L,ibN x<=b+10*fs.length*L+1:=λx hx=>by
 obtain⟨p,_,rfl⟩:=mem_map.mp hx
 have h1:=Yfx ok (h:=h) (w:=w) hb he L p.1.toNat p.2.toNat
 have h2:=Xpr (b+10*fs.length*L)
 have h3:=Xqv (b+10*fs.length*L)
 exact Yf1 (by omega) (by omega)
abbrev Xg6:Stmt:=top 90
theorem Xox:FnScope ["_law_script","_law_k"] ["_law_script","_law_k"] (Xaf Xg6):=by walk_at "S"
def Xf3:DSp:=λds P=>∃(ns:List Int) (k:Int),ds=[.lst (ns.map .int),.int k]/\0<=k/\P (.fz (.int (ns.getD k.toNat 0)))
theorem Xo4 {f:Addr}{fd:FuncData}(Df:DefAt K mg "_law_cell_at" Xg6 f fd)(B:BltV mg)(KV:KitV K):
  Cal P w K mg base "_law_cell_at" 1 ["_law_script","_law_k"] (spV K 2 Xf3):=by
 refine CalV.of Df Xox (by walk_at "b") rfl (λc A o s H E hr=>⟨_,_,(Xah (Xcm (Xbq Xn1 (pv 1) (Xay Xa2 (by rfl) B.len boot_len (Xaa (pv 0) Xad)) (Xbo _)) (Xal (Xa1 (Xax Xbr (pv 0) (pv 1) (λ_ _=>rfl)))) Xbg)
   (Xal (Xa1 Xaj))),
  (Xam (Xcl (Xbp (Xaq Xf9 Xac (Xap (Xb0 Xcx (Xai Xac Xan))))) (Xa4 (Xbk (Xbj Xch Xag Xag))) Xbf)
   (Xa4 (Xbk Xae))),?_⟩)
 rintro ds Pr ⟨ns,k,rfl,h0,q⟩
 fin2
 split
 .rename_i h
  exact⟨_,Xi8 h0 h,q⟩
 .rename_i h
  have e:ns.getD k.toNat 0=0:=by
   have hk:ns.length<=k.toNat:=by omega
   simp[List.getD,getElem?_eq_none hk]
  rw[e]at q
  exact q
def Xy7:DSp:=λds P=>∃(bs:List Bool) (m:Int) (n:Nat) (v:Wk),ds=[.str (Xbv bs),.int m,.int n]/\n<=5000/\Fol (Wk.turn ⟨n,0,[],[⟨0,0,m,1-2^n,2^n-1⟩],[]⟩) bs v/\v.wk.length<400000/\v.ah.length<400000/\(Xct v).length<=900000/\(∀p∈v.wk++v.ah,0<=p.e-p.s/\p.e-p.s<=100000)/\
 P (.fz (.tup [.lst (Xct v),.int v.us,.bl (decide (v.pl<0))]))
abbrev Xzk:Stmt:=top 16
theorem Xzf:FnScope ["bits","many","planes","walk"] ["bits","many","planes"] (Xaf Xzk):=by walk_at "S"
theorem Yhx {f:Addr}{fd:FuncData}(Df:DefAt K mg "read" Xzk f fd)(B:BltV mg)(KV:KitV K)(CV_Walk:ClsV K "Walk" Xa5)(Xfb:Cal P w K mg base "followed" 6 ["bits","many","planes"] (spV K 3 Xjn))(Xdo:CalM P w K mg base "Walk" "spans" 1 ["self"] (spV K 1 Xgx))(Xba:CalM P w K mg base "Walk" "is_whole" 1 ["self"] (spV K 1 Xcq)):
  Cal P w K mg base "read" 7 ["bits","many","planes"] (spV K 3 Xy7):=by
 refine CalV.of Df Xzf (by walk_at "b") rfl (λc A o s H E hr=>⟨_,_,(Xah (Xa9 (i:=3) Xzf.nd rfl (Or.inl rfl) (Xa0 Xfb (hr.mono (by decide)) (by rfl) (Xaa (pv 0) (Xaa (pv 1) (Xaa (pv 2) Xad)))))
   (Xal (Xa1 (Xbd (Xaa (Xc0 Xdo (hr.mono (by decide)) (pv 3)) (Xaa (Xb2 (pv 3) rfl) (Xaa (Xc0 Xba (hr.mono (by decide)) (pv 3)) Xad))))))),
  (Xam (Xa8 (Xat (Xab Xag (Xab Xag (Xab Xag Xak)))))
   (Xa4 (Xbk (Xbx (Xab (Xb4 (Xdt CV_Walk (by decide +kernel) Xac Xan)) (Xab (Ydc (Xc9 (j:=1) CV_Walk (by rfl) Xac)) (Xab (Xb4 (Xdt CV_Walk (by decide +kernel) Xac Xan)) Xak))))))),?_⟩)
 rintro ds Pr ⟨bs,m,n,v,rfl,hn,hF,h1,h2,h3,h4,h⟩
 gn_on
 refine⟨bs,m,n,v,rfl,hn,hF,?_⟩
 gp_on
 fin2
 refine⟨v,by rw[OV.vals_eq],h1,h2,h3,h4,?_⟩
 have hlf:OV.lf (.nl ((Xct v).map OV.fz))=true:=by
  show OV.lfs _=true
  rw[OV.lfs_eq,all_eq_true]
  intro t ht
  obtain⟨d,hd,rfl⟩:=mem_map.mp ht
  unfold Xct at hd
  obtain⟨p,_,hp⟩:=List.mem_flatMap.mp hd
  rw[(mem_replicate.mp hp).2]
  simp[Pa.sp,OV.lf,D.lf,D.lfs]
 refine⟨hlf,_,rfl,rfl,v,by rw[OV.vals_eq],rfl,?_⟩
 have ev:OV.val (.nl ((Xct v).map OV.fz)) = .lst (Xct v):=by
  show D.lst (OV.vals _)=_
  rw[Ybp]
 rw[ev]
 exact h
abbrev hdD (h w L n:Nat)(fs:List Lf):D:=.tup [.int h,.int w,.int L,.int n,Xge fs]
def Xjd:DSp:=λds P=>∃(h w L n:Nat) (fs:List Lf),ds=[hdD h w L n fs]/\(h<=100/\w<=100/\L<=100)/\P (.nl ((Xbz h w L).map λp=>.fz (ptD p)))
abbrev Xg8:Stmt:=top 81
theorem Xoy:FnScope ["head"] ["head"] (Xaf Xg8):=by walk_at "S"
theorem Xo5 {f:Addr}{fd:FuncData}(Df:DefAt K mg "head_places" Xg8 f fd)(B:BltV mg)(KV:KitV K)(Xkz:∃t,mg "HIGH"=some (.int 0 t))(Xkx:∃t,mg "WIDE"=some (.int 1 t))(Xer:∃t,mg "LEVELS"=some (.int 2 t))(Xi6:Cal P w K mg base "places" 2 ["high","wide","levels"] (spV K 3 Xne)):
  Cal P w K mg base "head_places" 3 ["head"] (spV K 1 Xjd):=by
 refine CalV.of Df Xoy (by walk_at "b") rfl (λc A o s H E hr=>⟨_,_,(Xal (Xa1 (Xa0 Xi6 (hr.mono (by decide)) (by rfl) (Xaa (Xax Xas (pv 0) (Xao (by rfl) Xkz) (λ_ _=>rfl)) (Xaa (Xax Xas (pv 0) (Xao (by rfl) Xkx) (λ_ _=>rfl)) (Xaa (Xax Xas (pv 0) (Xao (by rfl) Xer) (λ_ _=>rfl)) Xad)))))),
  (Xa4 (Xat (Xab (Xbj Xar Xag Xae) (Xab (Xbj Xar Xag Xae) (Xab (Xbj Xar Xag Xae) Xak))))),?_⟩)
 rintro ds Pr ⟨h,w,L,n,fs,rfl,hb,k⟩
 fin2
 exact⟨h,w,L,rfl,hb,k⟩
theorem Yeb {n:Nat}{p q:Int×Int}(h:Xu2 n p q):p≠q:=λz=>by
 subst z
 unfold Xu2 Yk6 at h
 simp[HT.lexLt]at h
theorem Xxs {h w n:Nat}:(Xbz h w n).Nodup:=Xxr.imp Yeb
theorem Xuj {h w n:Nat}{p:Int×Int}(hp:(0<=p.1/\p.1<h)/\0<=p.2/\p.2<w):p∈Xbz h w n:=by
 unfold Xbz
 refine List.mem_flatten.mpr ⟨grp n (Xmq h w) (lvF n p),mem_reverse.mpr (mem_map.mpr ⟨lvF n p,mem_range.mpr (Nat.lt_succ_of_le (Xs8 _ _ _)),rfl⟩),?_⟩
 exact mem_filter.mpr ⟨Xut.mpr hp,by simp⟩
def Xhw (h w L i j:Nat):Nat:=(Xbz h w L).idxOf ((i:Int),(j:Int))
theorem Xqr {h w L i j:Nat}(hi:i<h)(hj:j<w):Xhw h w L i j<(Xbz h w L).length:=
 List.idxOf_lt_length_of_mem (Xuj (p:=((i:Int),(j:Int))) ⟨⟨by dsimp only;omega,by dsimp only;omega⟩,by dsimp only;omega,by dsimp only;omega⟩)
theorem Xqs {h w L i j:Nat}(hi:i<h)(hj:j<w):(Xbz h w L)[Xhw h w L i j]?=some ((i:Int),(j:Int)):=by
 rw[getElem?_eq_getElem (Xqr hi hj)]
 exact congrArg some (List.getElem_idxOf (Xqr hi hj))
theorem Yae {h w L i j k:Nat}(hi:i<h)(hj:j<w)(hk:(Xbz h w L)[k]?=some ((i:Int),(j:Int))):Xhw h w L i j=k:=by
 have h1:=Xqs (L:=L) hi hj
 exact (List.getElem?_inj (Xqr hi hj) Xxs).mp (h1.trans hk.symm)
theorem Yfz {n:Nat}{i:Int}(h0:0<=i)(h:i<n):ixN n i=some i.toNat:=by
 unfold ixN
 rw[if_pos h0]
 try rw[if_pos (by omega)]
def shO (h w:Nat)(e:Nat->Nat->D):List OV:=tab h λi=>.nl (tab w λj=>.fz (e i j))
theorem Ygv {h w a b:Nat}{e:Nat->Nat->D}{d:D}:(shO h w e).set a (.nl ((tab w λj=>OV.fz (e a j)).set b (.fz d)))=shO h w λi j=>if i=a/\j=b then d else e i j:=by
 unfold shO
 rw[Xm5]
 refine Xcy λi hi=>?_
 by_cases q:i=a
 .subst q
  rw[if_pos rfl,Xm5]
  congr 1
  refine Xcy λj hj=>?_
  dsimp only
  by_cases y:j=b
  .rw [if_pos y,if_pos ⟨rfl,y⟩]
  .rw [if_neg y,if_neg (λz=>y z.2)]
 .rw [if_neg q]
  congr 1
  refine Xcy λj hj=>?_
  dsimp only
  rw[if_neg (λz=>q z.1)]
theorem Xzd {h w:Nat}{e e':Nat->Nat->D}(q:∀i j,i<h->j<w->e i j=e' i j):shO h w e=shO h w e':=
 Xcy λi hi=>congrArg OV.nl (Xcy λj hj=>congrArg OV.fz (q i j hi hj))
theorem Yci {α:Type}{g:α->D}{xs:List (Int×Int)}{ys:List α}(e:xs.length=ys.length):(((xs.map ptD).zip (ys.map g)).map λp=>D.tup [p.1,p.2]).length=ys.length:=by
 rw[length_map,length_zip,length_map,length_map,e,min_self]
def Xjm:DSp:=λds P=>∃(α:Type) (g:α->D) (zr:α) (h w L n:Nat) (fs:List Lf) (vs:List α),ds=[hdD h w L n fs,.lst (vs.map g)]/\(h<=100/\w<=100/\L<=100)/\vs.length=h*w/\P (.nl (shT g h w λi j=>vs.getD (Xhw h w L i j) zr))
abbrev Xi2:Stmt:=top 84
theorem Xgy:FnScope ["head","spans","sheet","place","thing"] ["head","spans"] (Xaf Xi2):=by walk_at "S"
theorem Xum {f:Addr}{fd:FuncData}(Df:DefAt K mg "sheet_of" Xi2 f fd)(B:BltV mg)(KV:KitV K)(Xkx:∃t,mg "WIDE"=some (.int 1 t))(Xkz:∃t,mg "HIGH"=some (.int 0 t))(Xho:Cal P w K mg base "head_places" 3 ["head"] (spV K 1 Xjd)):
  Cal P w K mg base "sheet_of" 4 ["head","spans"] (spV K 2 Xjm):=by
 refine CalV.of Df Xgy (by walk_at "b") rfl (λc A o s H E hr=>⟨_,_,(Xah (Xlk (i:=2) Xgy.nd rfl (Or.inl rfl) rfl (Xdv (by rfl) (by exact B.range) (Xaa (Xax Xas (pv 0) (Xao (by rfl) Xkz) (λ_ _=>rfl)) Xad)) (show BlkScope (Xaf Xi2) _ from⟨rfl,by decide +kernel,by decide +kernel,by decide +kernel⟩) (N:=["i","head"]) (ix:=[none,some 0]) (show Xd1 _ _ _ _ from⟨⟨rfl,rfl,.inl rfl⟩,trivial⟩) (λ_ _ _=>(Xau (i:=0) (show List.Nodup (["i","head"]:List Str) by decide +kernel) rfl (Or.inl rfl))) (λ_ _ _=>(Xaw Yfr (Xb8 (Xaa Xwf Xad)) (Xax Xas (pv 1) (Xao (by rfl) Xkx) (λ_ _=>rfl)))))
   (Xah (Xcv PassesOwn.never rfl (Yag rfl B.zip (Xaa (Xa0 Xho (hr.mono (by decide)) (by rfl) (Xaa (pv 0) Xad)) (Xaa (pv 1) Xad))) (Xgl (n:=2) rfl (Xbc (Xau (i:=3) Xgy.nd rfl (Or.inl rfl)) (Xbc (Xau (i:=4) Xgy.nd rfl (Or.inl rfl)) Xeg))) (Xal (Xnv (pv 4) (Xwd (Xax Xbr (pv 2) (Xax Xas (pv 3) Xaj (λ_ _=>rfl)) (λ_ _=>rfl)) (Xax Xas (pv 3) Xaj (λ_ _=>rfl)) Xi1))))
   (Xal (Xa1 (pv 2))))),
  (Xam (Xa8 (Xc6 (Xhe (Xai (Xbe (OpF.b Xar) Xac (Xap Xae)) Xan)) Xav (Xzt (Xc4 (Xby (Xbk Xv3) Xb7)) (Xbe (OpF.b Xar) Xac (Xap Xae)))))
   (Xam (Xcu (Xzx (Xab (Xb4 (Xat (Xab Xag Xak))) (Xab Xag Xak))) (Xgk (Xbb Xav (Xbb Xav Xee))) (Xzo Xag (Xbe (OpF.b Xar) Xac (Xap Xae)) (Xbe (OpF.b Xar) Xac (Xap Xae))))
   Xfh)),?_⟩)
 rintro ds Pr ⟨α,g,zr,h,w,L,n,fs,vs,rfl,hb,hl,k⟩
 obtain⟨hh,hw,hL⟩:=hb
 gn_on
 refine⟨⟨by omega,by omega⟩,?_⟩
 refine Xme.rng (λ_=>.nl (List.replicate w (.fz .non))) (by omega) (λi _ Q q=>?_) ?_
 .fin2
  exact⟨⟨by omega,by omega⟩,q⟩
 have e0:(List.range (h:Int).toNat).map (λ_=>OV.nl (List.replicate w (.fz .non)))=shO h w λi j=>if Xhw h w L i j<0 then g (vs.getD (Xhw h w L i j) zr) else .non:=by
  show tab h _=_
  refine Xcy λi _=>?_
  dsimp only
  congr 1
  have:∀j:Nat,(if Xhw h w L i j<0 then g (vs.getD (Xhw h w L i j) zr) else D.non) = .non:=λj=>if_neg (not_lt_zero _)
  simp only[this]
  unfold tab
  rw[List.map_const',length_range]
 rw[e0]
 gp_on
 gn_on
 refine⟨h,w,L,n,fs,rfl,⟨hh,hw,hL⟩,?_⟩
 fin2
 have ev:List.map OV.val (List.map (λp=>OV.fz (ptD p)) (Xbz h w L))=(Xbz h w L).map ptD:=by rw[map_map];rfl
 rw[ev]
 have hpl:=Xef (h:=h) (w:=w) (n:=L)
 have hzl:=Yci (g:=g) (xs:=Xbz h w L) (ys:=vs) (by omega)
 refine⟨λm M=>∃o3 o4:Option Sl,M=[vD (hdD h w L n fs),vD (.lst (vs.map g)),some (.own (.nl (shO h w λi j=>if Xhw h w L i j<m then g (vs.getD (Xhw h w L i j) zr) else .non))),o3,o4],⟨none,none,rfl⟩,?_,?_⟩
 .rintro m d M hd ⟨o3,o4,rfl⟩
  obtain⟨z,hz,rfl⟩:=Xs6 hd
  rw[List.getElem?_zip_eq_some,getElem?_map,getElem?_map]at hz
  obtain⟨hz1,hz2⟩:=hz
  obtain⟨p,hp,hp2⟩:=Option.map_eq_some_iff.mp hz1
  obtain⟨s,hs,hs2⟩:=Option.map_eq_some_iff.mp hz2
  rw[<- hp2,<- hs2]
  obtain⟨⟨p0,p1⟩,p2,p3⟩:=Xhh (mem_of_getElem? hp)
  have hsD:vs.getD m zr=s:=by rw[getD_eq_getElem?_getD,hs];rfl
  simp only[gT,Xhr,Xoh,gN,length_cons,length_nil,Nat.reduceAdd,true_and,set_cons_succ,set_cons_zero]
  unfold ptD
  fin2
  have hlen:(shO h w λi j=>if Xhw h w L i j<m then g (vs.getD (Xhw h w L i j) zr) else .non).length=h:=Xa7
  refine⟨p.1.toNat,tab w λj=>.fz (if Xhw h w L p.1.toNat j<m then g (vs.getD (Xhw h w L p.1.toNat j) zr) else .non),by rw[hlen];exact Yfz p0 p1,Xf2 (by omega),p.2.toNat,by rw[Xa7];exact Yfz p2 p3,?_⟩
  have hpe:p=(((p.1.toNat:Nat):Int),((p.2.toNat:Nat):Int)):=Prod.ext (by dsimp only;(clear hl hh hw hL hpl hzl p1 p3 hlen;omega)) (by dsimp only;(clear hl hh hw hL hpl hzl p1 p3 hlen;omega))
  have hput:=Ygv (h:=h) (w:=w) (a:=p.1.toNat) (b:=p.2.toNat) (e:=λi j=>if Xhw h w L i j<m then g (vs.getD (Xhw h w L i j) zr) else .non) (d:=g s)
  have hst:(shO h w λi j=>if i=p.1.toNat/\j=p.2.toNat then g s else if Xhw h w L i j<m then g (vs.getD (Xhw h w L i j) zr) else .non)=shO h w λi j=>if Xhw h w L i j<m+1 then g (vs.getD (Xhw h w L i j) zr) else .non:=Xzd λi j hi hj=>by
   by_cases z:i=p.1.toNat/\j=p.2.toNat
   .obtain ⟨rfl,rfl⟩:=z
    have hx:=Yae (L:=L) (k:=m) hi hj (by rw[<- hpe];exact hp)
    rw[if_pos ⟨rfl,rfl⟩,hx,if_pos (by (clear hl hw hL hpl hzl p0 p1 p2 p3 hlen hi hj hx;omega)),hsD]
   .rw [if_neg z]
    have hne:Xhw h w L i j≠m:=λq=>by
     have h1:=Xqs (L:=L) hi hj
     rw[q,hp]at h1
     have h2:=Option.some.inj h1
     exact z ⟨by rw[h2];rfl,by rw[h2];rfl⟩
    by_cases y:Xhw h w L i j<m
    .rw [if_pos y,if_pos (by (clear hl hzl p0 p1 p2 p3 hlen;omega))]
    .rw [if_neg y,if_neg (by (clear hl hzl p0 p1 p2 p3 hlen;omega))]
  rw[<- hst,<- hput]
  exact⟨_,_,rfl⟩
 .rintro M ⟨o3,o4,rfl⟩
  rw[hzl]
  gp_on
  fin2
  have ee:(shO h w λi j=>if Xhw h w L i j<vs.length then g (vs.getD (Xhw h w L i j) zr) else .non)=shT g h w λi j=>vs.getD (Xhw h w L i j) zr:=by
   show shO h w _=shO h w _
   refine Xzd λi j hi hj=>?_
   have:=Xqr (L:=L) hi hj
   rw[if_pos (by omega)]
  rw[ee]
  exact k
def Xvx:DSp:=λds P=>∃(h w L n k:Nat) (fs:List Lf) (vs:List Sp2),ds=[hdD h w L n fs,.lst (vs.map spD),.int k]/\(∀f∈fs,f.Ok)/\(0<h/\h<=100/\w<=100/\L<=6)/\k<=L/\vs.length=h*w/\
 P (.nl (shT spD (Xhs 0 h (2^k:Nat)) (Xhs 0 w (2^k:Nat)) λi j=>Xdq (0,0) (λk=>Xd7 (0,0) Xd2 fs (2^k:Nat)) h w L k (λi j=>vs.getD (Xhw h w L i j) (0,0)) (i*2^k) (j*2^k)))
abbrev Xub:Stmt:=top 86
theorem Ycz:FnScope ["head","spans","k"] ["head","spans","k"] (Xaf Xub):=by walk_at "S"
theorem Ydz {f:Addr}{fd:FuncData}(Df:DefAt K mg "level" Xub f fd)(B:BltV mg)(KV:KitV K)(Xi4:∃t,mg "LADDER"=some (.int 4 t))(Xer:∃t,mg "LEVELS"=some (.int 2 t))(Xej:Cal P w K mg base "holds" 1 ["one","number"] (spV K 2 Xi0))(Xd0:Cal P w K mg base "thinned" 1 ["sheet","k"] (spV K 2 Xiz))(Xgb:CalD P w K mg base "opened_spans" 6 ["sheet","ladder","levels","down"] (spV K 4 Xhz) [.int 0])(Xfa:Cal P w K mg base "sheet_of" 4 ["head","spans"] (spV K 2 Xjm)):
  Cal P w K mg base "level" 7 ["head","spans","k"] (spV K 3 Xvx):=by
 refine CalV.of Df Ycz (by walk_at "b") rfl (λc A o s H E hr=>⟨_,_,(Xah (Xcm (Xdk (Xcr (Xa0 Xej (hr.mono (by decide)) (by rfl) (Xaa (Xbd (Xaa Xaj (Xaa (Xax Xas (pv 0) (Xao (by rfl) Xer) (λ_ _=>rfl)) Xad))) (Xaa (pv 2) Xad))))) (Xal Xhg) Xbg)
   (Xal (Xa1 (Xa0 Xd0 (hr.mono (by decide)) (by rfl) (Xaa (Xa0 Xgb.cal (hr.mono (by decide)) (by rfl) (Xaa (Xa0 Xfa (hr.mono (by decide)) (by rfl) (Xaa (pv 0) (Xaa (pv 1) Xad))) (Xaa (Xax Xas (pv 0) (Xao (by rfl) Xi4) (λ_ _=>rfl)) (Xaa (Xax Xas (pv 0) (Xao (by rfl) Xer) (λ_ _=>rfl)) (Xaa (pv 2) Xad))))) (Xaa (pv 2) Xad)))))),
  (Xam (Xcl (Xdj (Xmk (Xb4 (Xat (Xab (Xbx (Xab Xae (Xab (Xbj Xar Xag Xae) Xak))) (Xab Xag Xak)))))) Xhd Xbf)
   (Xa4 (Xat (Xab (Xb4 (Xat (Xab (Xb4 (Xat (Xab Xag (Xab Xag Xak)))) (Xab (Xbj Xar Xag Xae) (Xab (Xbj Xar Xag Xae) (Xab Xag Xak)))))) (Xab Xag Xak))))),?_⟩)
 rintro ds Pr ⟨h,w,L,n,k,fs,vs,rfl,ok,hb,hk,hl,hP⟩
 obtain⟨h0,hh,hw,hL⟩:=hb
 gn_on
 refine⟨0,L,k,rfl,?_⟩
 rw[decide_eq_true (by omega:(0:Int)<=k),decide_eq_true (by omega:(k:Int)<=L)]
 show if (!true)=true then _ else _
 rw[if_neg (by decide)]
 gp_on
 fin2
 refine⟨Sp2,spD,(0,0),h,w,L,n,fs,vs,rfl,⟨hh,hw,by omega⟩,hl,?_⟩
 fin2
 rw[Xdf]
 refine⟨h,w,_,fs,L,k,rfl,ok,hL,by omega,h0,by omega,by omega,?_⟩
 fin2
 rw[Xdf]
 exact⟨Sp2,spD,h,w,k,_,rfl,by omega,by omega,by omega,hP⟩
def Xmh (h w L:Nat)(fs:List Lf)(u:Wk):Nat->Nat->Sp2:=Xdq (0,0) (λk=>Xd7 (0,0) Xd2 fs (2^k:Nat)) h w L 0 λi j=>(Xd5 u).getD (Xhw h w L i j) (0,0)
theorem Xt5 (u:Wk):Xct u=(Xd5 u).map spD:=by
 unfold Xct Xd5
 rw[List.map_flatMap]
 simp only[map_replicate]
 rfl
abbrev wk0 (m n:Nat):Wk:=Wk.turn ⟨n,0,[],[⟨0,0,m,1-2^n,2^n-1⟩],[]⟩
theorem Xze {h w L m:Nat}{fs:List Lf}(ok:∀f∈fs,f.Ok)(hm:0<m)(hmm:m=h*w){a b:Wk}{bs:List Bool}(F:Fol a bs b)(Sa:Shp m a)(Sb:Shp m b){i j:Nat}(hi:i<h)(hj:j<w):inS (Xmh h w L fs a i j) (Xmh h w L fs b i j):=by
 refine Ykq ok (λi j=>?_) i j hi hj
 have l1:=Xlc Sa
 have l2:=Xlc Sb
 rcases lt_or_ge (Xhw h w L i j) m with z |z
 .obtain ⟨s,t,e1,e2,r⟩:=Ypk hm F Sa Sb z
  rw[getD_eq_getElem?_getD,getD_eq_getElem?_getD,e1,e2]
  exact r
 .rw [getD_eq_getElem?_getD,getD_eq_getElem?_getD,getElem?_eq_none (by omega),getElem?_eq_none (by omega)]
  exact⟨Int.le_refl _,Int.le_refl _,Int.le_refl _⟩
theorem Xza:∀{xs:List Int} {ss:List (Int×Int)},ss.map spD=xs.map dot->ss=xs.map λx=>(x,x)
 | [],[],_=>rfl
 | [],s::ss,h=>by cases h
 |x::xs,[],h=>by cases h
 |x::xs,s::ss,h=>by
  rw[map_cons,map_cons]at h
  obtain⟨h1,h2⟩:=List.cons.inj h
  rw[Xza h2,map_cons]
  congr 1
  unfold spD dot at h1
  simp only[D.tup.injEq,List.cons.injEq,D.int.injEq,and_true]at h1
  exact Prod.ext h1.1 h1.2
theorem Xqe {h w L m:Nat}{fs:List Lf}(ok:∀f∈fs,f.Ok){xs:List Int}(hx:xs.length=m){v:Wk}(S:Shp m v)(C:Xd4 xs v)(hv:v.pl<0){i j:Nat}(hi:i<h)(hj:j<w):
  Xmh h w L fs v i j=(Xdq 0 (λk=>Xcw fs (2^k:Nat)) h w L 0 (λi j=>xs.getD (Xhw h w L i j) 0) i j,Xdq 0 (λk=>Xcw fs (2^k:Nat)) h w L 0 (λi j=>xs.getD (Xhw h w L i j) 0) i j):=by
 have e1:=Xnc hx S C hv
 rw[Xt5]at e1
 unfold Xmh
 rw[Xza e1,<- Ykp ok i j hi hj]
 congr 1
 funext i j
 rcases lt_or_ge (Xhw h w L i j) xs.length with z |z
 .rw [getD_eq_getElem?_getD,getD_eq_getElem?_getD,getElem?_map,getElem?_eq_getElem z]
  rfl
 .rw [getD_eq_getElem?_getD,getD_eq_getElem?_getD,getElem?_eq_none (by rw[length_map];exact z),getElem?_eq_none z]
  rfl
theorem Xq4 {h w L:Nat}{e:Nat->Nat->Int}{fs:List Lf}:(Xex h w e fs L).length=h*w:=by
 unfold Xex
 rw[length_map,Xef]
def Xld:DSp:=λds P=>∃(h w L n:Nat) (fs:List Lf) (bs:List Bool) (v:Wk),ds=[hdD h w L n fs,.str (Xbv bs)]/\h<=100/\n<=5000/\Fol (Wk.turn ⟨n,0,[],[⟨0,0,h*w,1-2^n,2^n-1⟩],[]⟩) bs v/\P (.ob none "Walk" Xa5 v.ts)
abbrev Xnm:Stmt:=top 82
theorem Xxh:FnScope ["head","bits"] ["head","bits"] (Xaf Xnm):=by walk_at "S"
theorem Xxw {f:Addr}{fd:FuncData}(Df:DefAt K mg "walk_of" Xnm f fd)(B:BltV mg)(KV:KitV K)(Xrc:∃t,mg "PLANES"=some (.int 3 t))(Xkz:∃t,mg "HIGH"=some (.int 0 t))(Xkx:∃t,mg "WIDE"=some (.int 1 t))(Xfb:Cal P w K mg base "followed" 6 ["bits","many","planes"] (spV K 3 Xjn)):
  Cal P w K mg base "walk_of" 7 ["head","bits"] (spV K 2 Xld):=by
 refine CalV.of Df Xxh (by walk_at "b") rfl (λc A o s H E hr=>⟨_,_,(Xal (Xa1 (Xa0 Xfb (hr.mono (by decide)) (by rfl) (Xaa (pv 1) (Xaa (Xaw Xet (Xax Xas (pv 0) (Xao (by rfl) Xkz) (λ_ _=>rfl)) (Xax Xas (pv 0) (Xao (by rfl) Xkx) (λ_ _=>rfl))) (Xaa (Xax Xas (pv 0) (Xao (by rfl) Xrc) (λ_ _=>rfl)) Xad)))))),
  (Xa4 (Xat (Xab Xag (Xab (Xaq Xdd (Xbe (OpF.b Xar) Xac (Xap Xae)) (Xbe (OpF.b Xar) Xac (Xap Xae))) (Xab (Xbj Xar Xag Xae) Xak))))),?_⟩)
 rintro ds Pr ⟨h,w,L,n,fs,bs,v,rfl,hh,hn,F,k⟩
 fin2
 exact⟨.inl ⟨by omega,by omega⟩,bs,_,n,v,rfl,hn,F,k⟩
def Xb3:List Str:=["head","fed","walk"]
def rdT (hd:D)(fd:List Str)(u:Wk):List OV:=[.fz hd,.nl (fd.map λs=>.fz (.str s)),.ob none "Walk" Xa5 u.ts]
def Ymn (h w L n:Nat)(fs:List Lf):Prop:=(1<=h/\h<=64)/\(1<=w/\w<=64)/\L<=6/\n<=4000/\fs.length<=6/\∀f∈fs,f.Ok
def Xph:DSp:=λds P=>∃(h w L n:Nat) (fs:List Lf),ds=[hdD h w L n fs]/\Ymn h w L n fs/\P (.fz (.bl true))
def Xft:DMo:=λts ds P=>∃(h w L n:Nat) (fs:List Lf),ts=[]/\ds=[hdD h w L n fs]/\Ymn h w L n fs/\P (rdT (hdD h w L n fs) [] (wk0 (h*w) n))
def Xjf:DMo:=λts ds P=>∃(hd:D) (fd:List Str) (u v:Wk) (bs:List Bool),ts=rdT hd fd u/\ds=[.str (Xbv bs)]/\fd.length+bs.length<=1000000/\Fol u bs v/\v.us=fd.length+bs.length/\P (rdT hd (fd++Xmg (Xbv bs)) v)
def Xfs:DSp:=λds P=>∃(hd:D) (fd:List Str) (u:Wk),ds=[.obj "Reader" Xb3 (OV.vals (rdT hd fd u))]/\P (.fz (.bl (decide (u.pl<0))))
def Xh8:DSp:=λds P=>∃(hd:D) (fd:List Str) (u:Wk),ds=[.obj "Reader" Xb3 (OV.vals (rdT hd fd u))]/\u.wk.length<400000/\u.ah.length<400000/\(Xct u).length<=900000/\(∀p∈u.wk++u.ah,0<=p.e-p.s/\p.e-p.s<=100000)/\P (.nl ((Xct u).map .fz))
def Xje:DSp:=λds P=>∃(h w L n:Nat) (fs:List Lf) (fd:List Str) (u:Wk),ds=[.obj "Reader" Xb3 (OV.vals (rdT (hdD h w L n fs) fd u))]/\Ymn h w L n fs/\Shp (h*w:Nat) u/\P (.nl (shT spD h w (Xmh h w L fs u)))
abbrev Xki:Stmt:=top 80
theorem Xxl:FnScope ["thing"] ["thing"] (Xaf Xki):=by walk_at "S"
abbrev Xec:Stmt:=Xdh (top 88) 0
theorem Xkf:FnScope ["self","head"] ["self","head"] (Xaf Xec):=by walk_at "S"
abbrev Xhc:Stmt:=Xdh (top 88) 1
theorem Xo0:FnScope ["self","bits"] ["self","bits"] (Xaf Xhc):=by walk_at "S"
abbrev Xeb:Stmt:=Xdh (top 88) 3
theorem Xke:FnScope ["self"] ["self"] (Xaf Xeb):=by walk_at "S"
abbrev Xf8:Stmt:=Xdh (top 88) 4
theorem Xnl:FnScope ["self"] ["self"] (Xaf Xf8):=by walk_at "S"
abbrev Xhb:Stmt:=Xdh (top 88) 5
theorem Xoz:FnScope ["self"] ["self"] (Xaf Xhb):=by walk_at "S"
theorem Yew {p:Nat->Bool}:∀(l:List Nat),(∀c∈l,p c=true)->l.takeWhile p=l
 | [],_=>rfl
 |c::l,h=>by rw[List.takeWhile_cons,h c mem_cons_self,if_pos rfl,Yew l λd hd=>h d (mem_cons_of_mem _ hd)]
theorem Xy2 {x y:Str}(h:∀c∈x.cps.toList,y.cps.contains c=true):Txt.stripChars x y=⟨#[]⟩:=by
 have lo:PySem.stripLo y.cps.contains true x=x.length:=by
  simp only[PySem.stripLo,if_true]
  rw[Yew _ h,length_toList]
  rfl
 unfold Txt.stripChars Txt.stripBy
 split
 .rename_i z
  unfold PySem.stripSame at z
  rw[lo]at z
  have hx:x.length=0:=by
   have:=(and_eq_true _ _).mp z
   simpa using this.1
  obtain⟨a⟩:=x
  have:a=#[]:=Array.eq_empty_of_size_eq_zero hx
  rw[this]
 .unfold PySem.stripped
  rw[lo]
  show (⟨x.cps.extract x.length _⟩:Str)=_
  congr 1
  refine Array.eq_empty_of_size_eq_zero ?_
  rw[Array.size_extract]
  show min _ x.cps.size-x.cps.size=0
  omega
theorem Yma (b:Bool):∀c∈(Xk7 b).cps.toList,(Str.ofString "01").cps.contains c=true:=by cases b<;>decide +kernel
theorem Xvs:∀bs:List Bool,∀c∈(Xbv bs).cps.toList,(Str.ofString "01").cps.contains c=true
 | [],c,hc=>by
  rw[Xgf]at hc
  simp[Str.empty]at hc
 |b::bs,c,hc=>by
  rw[Xdi,show (Xk7 b++Xbv bs).cps=(Xk7 b).cps++(Xbv bs).cps from rfl,toList_append]at hc
  rcases mem_append.mp hc with z |z
  .exact Yma b c z
  .exact Xvs bs c z
theorem Ygp (bs:List Bool):Txt.stripChars (Xbv bs) (Str.ofString "01")=Str.ofString "":=by
 rw[Xy2 (Xvs bs),Xt3]
theorem Ybc {h w:Nat}{e:Nat->Nat->Sp2}:OV.lf (.nl (shT spD h w e))=true:=by
 show OV.lfs _=true
 rw[OV.lfs_eq,all_eq_true]
 intro t ht
 obtain⟨i,_,rfl⟩:=mem_map.mp ht
 show OV.lfs _=true
 have:=Xuy (xs:=tab w λj=>e i j)
 rw[Xgu]at this
 exact this
theorem Xx1 {f:Addr}{fd:FuncData}(Df:DefAt K mg "is_head" Xki f fd)(B:BltV mg)(KV:KitV K)(Xi4:∃t,mg "LADDER"=some (.int 4 t))(Xcg:Ygg K mg "NUMBER_SPANS" (D.tup [.tup [.int 1,.int 64],.tup [.int 1,.int 64],.tup [.int 0,.int 6],.tup [.int 0,.int 4000]]))(Xgs:Cal P w K mg base "is_part" 2 ["thing","at"] (spV K 2 Xle))(Xei:Cal P w K mg base "is_ladder" 3 ["thing"] (spV K 1 Xh2)):
  Cal P w K mg base "is_head" 4 ["thing"] (spV K 1 Xph):=by
 refine CalV.of Df Xxl (by walk_at "b") rfl (λc A o s H E hr=>⟨_,_,(Xah (Xcm (Xnt (Xdk (Xcr (Xay Xeu (by rfl) B.isinstance boot_isinstance (Xaa (pv 0) (Xaa (Xil (v:=.ty "tuple") (by rfl) B.tuple PyProof.Rows.boot_tuple (by rfl)) Xad))))) (Xkm (Xbq Xxv (Xay Xa2 (by rfl) B.len boot_len (Xaa (pv 0) Xad)) (Xaw Xc5 (Xay Xa2 (by rfl) B.len boot_len (Xaa (Xhi (by rfl) Xcg) Xad)) Xaj) (Xbo _)))).pt (Xal (Xa1 Xkp)) Xbg)
   (Xal (Xa1 (Xwi (Xay (Xgp rfl) (by rfl) B.all boot_all (Xaa (Xdy rfl (Xdv (by rfl) (by exact B.range) (Xaa (Xay Xa2 (by rfl) B.len boot_len (Xaa (Xhi (by rfl) Xcg) Xad)) Xad)) (show BlkScope (Xaf Xki) _ from⟨rfl,by decide +kernel,by decide +kernel,by decide +kernel⟩) (N:=["at","thing"]) (ix:=[none,some 0]) (show Xd1 _ _ _ _ from⟨⟨rfl,rfl,.inl rfl⟩,trivial⟩) (λ_ _ _=>(Xau (i:=0) (show List.Nodup (["at","thing"]:List Str) by decide +kernel) rfl (Or.inl rfl))) (λ_ _ _=>(Xa0 Xgs (hr.mono (by decide)) (by rfl) (Xaa (Xax Xas (pv 1) (pv 0) (λ_ _=>rfl)) (Xaa (pv 0) Xad))))) Xad)) (Xwe (Xa0 Xei (hr.mono (by decide)) (by rfl) (Xaa (Xax Xas (pv 0) (Xao (by rfl) Xi4) (λ_ _=>rfl)) Xad))))))),
  (Xam (Xcl (Xnp (Xdj (Xmk (Xb0 (Xmd KV) (Xai Xac (Xai (Xap Xsf) Xan))))) (Xbp (Xaq Xx2 (Xap (Xb0 Xcx (Xai Xac Xan))) (Xap (Xaq Xb5 (Xap (Xb0 Xcx (Xai (Xap Xuf) Xan))) (Xap Xae)))))) (Xa4 (Xbk Xkk)) Xbf)
   (Xa4 (Xbk (Xqo (Xb0 Xp7 (Xai (Xap (Xb4 (Xc6 (Xhe (Xai (Xap (Xb0 Xcx (Xai (Xap Xuf) Xan))) Xan)) Xav (Xat (Xab (Xbj Xar Xag Xag) (Xab Xag Xak)))))) Xan)) (Xb4 (Xat (Xab (Xbj Xar Xag Xae) Xak))))))),?_⟩)
 rintro ds Pr ⟨h,w,L,n,fs,rfl,hd,k⟩
 obtain⟨⟨h1,h2⟩,⟨w1,w2⟩,hL,hn,hf,ok⟩:=hd
 fin2
 rw[if_neg (by simp)]
 refine⟨⟨by decide,by decide⟩,?_⟩
 refine Xme.map [(0:Int),1,2,3] D.int (λ_=>.fz (.bl true)) (by decide) (λx hx Q q=>?_) ?_
 .fin2
  simp only[mem_cons,not_mem_nil,or_false]at hx
  rcases hx with rfl |rfl |rfl |rfl
  .exact ⟨_,rfl,h,0,rfl,.inl ⟨rfl,h1,h2⟩,q⟩
  .exact ⟨_,rfl,w,1,rfl,.inr (.inl ⟨rfl,w1,w2⟩),q⟩
  .exact ⟨_,rfl,L,2,rfl,.inr (.inr (.inl ⟨rfl,hL⟩)),q⟩
  .exact ⟨_,rfl,n,3,rfl,.inr (.inr (.inr ⟨rfl,hn⟩)),q⟩
 refine⟨[true,true,true,true],rfl,?_⟩
 rw[if_pos (by decide)]
 exact⟨fs,rfl,hf,ok,k⟩
theorem Xkt {f:Addr}{fd:FuncData}(Df:Fun K "__init__" "Reader.__init__" Xec f fd)(Mf:MakAt K mg "Reader" f)(B:BltV mg)(KV:KitV K)(CV_Reader:ClsV K "Reader" Xb3)(Xop:Cal P w K mg base "is_head" 4 ["thing"] (spV K 1 Xph))(Xgq:Cal P w K mg base "walk_of" 7 ["head","bits"] (spV K 2 Xld)):
  CalK P w K mg base "Reader" 8 ["self","head"] (spM K 2 "Reader" Xb3 Xft):=by
 refine CalK.of Df Mf Xkf (by walk_at "b") rfl (λc A o s H E hr=>⟨_,_,(Xah (Xcm (Xdk (Xcr (Xa0 Xop (hr.mono (by decide)) (by rfl) (Xaa (pv 1) Xad)))) (Xal Xhg) Xbg)
   (Xah (Xih (pv 0) (pv 1) rfl)
   (Xah (Xih (pv 0) (Xb8 Xad) rfl)
   (Xal (Xih (pv 0) (Xa0 Xgq (hr.mono (by decide)) (by rfl) (Xaa (pv 1) (Xaa Xij Xad))) rfl))))),
  (Xam (Xcl (Xdj (Xmk (Xb4 (Xat (Xab Xag Xak))))) Xhd Xbf)
   (Xam (Xie (j:=0) CV_Reader (by rfl) (Xbk Xag))
   (Xam (Xie (j:=1) CV_Reader (by rfl) (Xc4 Xb7))
   (Xie (j:=2) CV_Reader (by rfl) (Xat (Xab Xag (Xab Xif Xak))))))),?_⟩)
 rintro a ts ds Pr ⟨h,w,L,n,fs,rfl,rfl,hd,k⟩
 have hd':=hd
 obtain⟨⟨h1,h2⟩,⟨w1,w2⟩,hL,hn,hf,ok⟩:=hd'
 gn_on
 refine⟨h,w,L,n,fs,rfl,hd,?_⟩
 fin2
 gp_on
 fin2
 refine⟨h,w,L,n,fs,[],wk0 (h*w) n,by rw[Xgf,Xt3];rfl,by omega,by omega,?_,k⟩
 rw[<- natCast_mul]
 exact .nil
theorem Xo9 {f:Addr}{fd:FuncData}(Df:MetAt K "Reader" "feed" "Reader.feed" Xhc f fd)(B:BltV mg)(KV:KitV K)(CV_Walk:ClsV K "Walk" Xa5)(CV_Reader:ClsV K "Reader" Xb3)(Xc3:CalM P w K mg base "Walk" "follow" 5 ["self","bits"] (spM K 2 "Walk" Xa5 Xf5))(Xgq:Cal P w K mg base "walk_of" 7 ["head","bits"] (spV K 2 Xld)):
  CalM P w K mg base "Reader" "feed" 8 ["self","bits"] (spM K 2 "Reader" Xb3 Xjf):=by
 refine CalM.of Df Xo0 (by walk_at "b") rfl (λc A o s H E hr=>⟨_,_,(Xah (Xcm (Xbq Xxv (Xik PySem.F.plainAttrs_str PySem.F.slot_str_strip PySem.F.type_str_strip Yd5 (pv 1) (Xaa Xij Xad)) Xij (Xbo _)) (Xal Xhg) Xbg)
   (Xah (Xbl (Xfl Xc3 (hr.mono (by decide)) (Xb2 (pv 0) rfl) (Xaa (pv 1) Xad)))
   (Xah (Xcm (Xbq Xn1 (Xb2 (Xb2 (pv 0) rfl) rfl) (Xaw Xc5 (Xay Xa2 (by rfl) B.len boot_len (Xaa (Xb2 (pv 0) rfl) Xad)) (Xay Xmc (by rfl) B.len boot_len (Xaa (pv 1) Xad))) (Xbo _)) (Xah (Xih (pv 0) (Xa0 Xgq (hr.mono (by decide)) (by rfl) (Xaa (Xb2 (pv 0) rfl) (Xaa (Xb2 (pv 0) rfl) Xad))) rfl)
   (Xal Xhg)) Xbg)
   (Xal (Xbl (Xik plainAttrs_list slot_list_extend type_list_extend (Yh7 rfl) (Xb2 (pv 0) rfl) (Xaa (pv 1) Xad))))))),
  (Xam (Xcl (Xbp (Xaq Xx2 (Xap (Ydb Xac (Xap Xif))) (Xap Xif))) Xhd Xbf)
   (Xam (Yc2 (j:=2) CV_Reader CV_Walk (by rfl) (by decide +kernel) (Xab Xag Xak))
   (Xam (Xcl (Xbp (Xaq Xf9 (Xc9 (j:=1) CV_Walk (by rfl) (Xc9 (j:=2) CV_Reader (by rfl) Xac)) (Xap (Xaq Xb5 (Xap (Xb0 Xcx (Xai (Xc9 (j:=1) CV_Reader (by rfl) Xac) Xan))) (Xap (Xb0 Yca (Xai Xac Xan))))))) (Xam (Xud (j:=2) CV_Reader (by rfl) (Xeq (Xai (Xc9 (j:=0) CV_Reader (by rfl) Xac) (Xai (Xc9 (j:=1) CV_Reader (by rfl) Xac) Xan))))
   Xhd) Xbf)
   (Yc3 (j:=1) CV_Reader (by rfl) Xag)))),?_⟩)
 rintro a ts ds Pr ⟨hd,fd,u,v,bs,rfl,rfl,hl,hF,hus,k⟩
 gn_on
 rw[Ygp,Xbh]
 refine⟨by omega,?_⟩
 rw[if_neg (by simp)]
 gp_on
 gn_on
 unfold rdT
 fin2
 refine⟨none,u.ts,⟨rfl,rfl⟩,u,v,bs,rfl,rfl,hF,?_⟩
 gp_on
 gn_on
 rw[Xbh]
 refine⟨.int v.us,rfl,by omega,?_⟩
 show if v.us<_ then _ else _
 rw[if_neg (by omega)]
 gp_on
 fin2
 refine⟨_,rfl,by rw[length_map,show (Xbv bs).cps.size=bs.length from Xbh bs];exact hl,?_⟩
 rw[<- map_append]
 exact k
theorem Xks {f:Addr}{fd:FuncData}(Df:MetAt K "Reader" "is_whole" "Reader.is_whole" Xeb f fd)(B:BltV mg)(KV:KitV K)(CV_Walk:ClsV K "Walk" Xa5)(CV_Reader:ClsV K "Reader" Xb3)(Xba:CalM P w K mg base "Walk" "is_whole" 1 ["self"] (spV K 1 Xcq)):
  CalM P w K mg base "Reader" "is_whole" 2 ["self"] (spV K 1 Xfs):=by
 refine CalP.of Df Xke (by walk_at "b") rfl (λc A o s H E hr=>⟨_,_,(Xal (Xa1 (Xc0 Xba (hr.mono (by decide)) (Xb2 (pv 0) rfl)))),
  (Xa4 (Xdt CV_Walk (by decide +kernel) (Xc9 (j:=2) CV_Reader (by rfl) Xac) Xan)),?_⟩)
 rintro ds Pr ⟨hd,fd,u,rfl,k⟩
 fin2
 refine⟨_,rfl,rfl,rfl,u,by rw[OV.vals_eq],rfl,k⟩
theorem Xn4 {f:Addr}{fd:FuncData}(Df:MetAt K "Reader" "spans" "Reader.spans" Xf8 f fd)(B:BltV mg)(KV:KitV K)(CV_Walk:ClsV K "Walk" Xa5)(CV_Reader:ClsV K "Reader" Xb3)(Xdo:CalM P w K mg base "Walk" "spans" 1 ["self"] (spV K 1 Xgx)):
  CalM P w K mg base "Reader" "spans" 2 ["self"] (spV K 1 Xh8):=by
 refine CalP.of Df Xnl (by walk_at "b") rfl (λc A o s H E hr=>⟨_,_,(Xal (Xa1 (Xc0 Xdo (hr.mono (by decide)) (Xb2 (pv 0) rfl)))),
  (Xa4 (Xdt CV_Walk (by decide +kernel) (Xc9 (j:=2) CV_Reader (by rfl) Xac) Xan)),?_⟩)
 rintro ds Pr ⟨hd,fd,u,rfl,h1,h2,h3,h4,k⟩
 fin2
 refine⟨_,rfl,rfl,rfl,u,by rw[OV.vals_eq],h1,h2,h3,h4,?_,k⟩
 rw[Xt5]
 show OV.lfs _=true
 rw[map_map]
 exact Xuy
theorem Xo8 {f:Addr}{fd:FuncData}(Df:MetAt K "Reader" "seen" "Reader.seen" Xhb f fd)(B:BltV mg)(KV:KitV K)(CV_Reader:ClsV K "Reader" Xb3)(Xvj:Cal P w K mg base "level" 7 ["head","spans","k"] (spV K 3 Xvx))(Xgd:CalM P w K mg base "Reader" "spans" 2 ["self"] (spV K 1 Xh8)):
  CalM P w K mg base "Reader" "seen" 8 ["self"] (spV K 1 Xje):=by
 refine CalP.of Df Xoz (by walk_at "b") rfl (λc A o s H E hr=>⟨_,_,(Xal (Xa1 (Xa0 Xvj (hr.mono (by decide)) (by rfl) (Xaa (Xb2 (pv 0) rfl) (Xaa (Xc0 Xgd (hr.mono (by decide)) (pv 0)) (Xaa Xaj Xad)))))),
  (Xa4 (Xeq (Xai (Xc9 (j:=0) CV_Reader (by rfl) Xac) (Xai (Xap (Xb4 (Xdt CV_Reader (by decide +kernel) Xac Xan))) (Xai (Xap Xae) Xan))))),?_⟩)
 rintro ds Pr ⟨h,w,L,n,fs,fd,u,rfl,hd,S,k⟩
 have hd':=hd
 obtain⟨⟨h1,h2⟩,⟨w1,w2⟩,hL,hn,hf,ok⟩:=hd'
 have hm:h*w<=4096:=mul_le_mul h2 w2
 have tu:=Xr3 S (by omega)
 fin2
 refine⟨_,rfl,hdD h w L n fs,fd,u,by rw[OV.vals_eq],tu.1,tu.2.1,by omega,tu.2.2.2,?_⟩
 rw[Xt5]
 have hlf:OV.lf (.nl (List.map OV.fz (List.map spD (Xd5 u))))=true:=by
  show OV.lfs _=true
  rw[map_map]
  exact Xuy
 refine⟨hlf,?_⟩
 have ev:OV.val (.nl (List.map OV.fz (List.map spD (Xd5 u)))) = .lst ((Xd5 u).map spD):=by
  show D.lst (OV.vals _)=_
  rw[Ybp]
 rw[ev]
 have hql:=Xlc S
 refine⟨h,w,L,n,0,fs,Xd5 u,rfl,ok,⟨by omega,by omega,by omega,hL⟩,zero_le _,hql,?_⟩
 rw[Xt7]
 exact⟨Ybc,k⟩
theorem Xvp {xs:List Int}{w:Wk}{as bs:List Bool}(h:Tell xs w as):Tell xs w bs->as=bs:=by
 induction h generalizing bs with
 |done h=>intro g;cases g with
  |done _=>rfl
  |step h'=>omega
 |step h h5 hf e hp h1 t ih=>
  intro g;cases g with
  |done h'=>omega
  |step h' h5' hf' e' hp' h1' t'=>
   obtain⟨rfl,e2⟩:=append_inj' (e.symm.trans e') rfl
   cases e2
   rw[ih t']
theorem Ygs {w:Wk}{ah:List Pa}{p:Pa}{b:Bool}(u:Int)(r:List Int)(hr:r.length<=w.re.length):∃u' r',r'.length<=(w.step ah p b).rowEnd.re.length/\(Wk.step {w with us:=u,re:=r} ah p b).rowEnd={(w.step ah p b).rowEnd with us:=u',re:=r'}:=by
 have h:Wk.step {w with us:=u,re:=r} ah p b={w.step ah p b with us:=u+1,re:=r}/\(w.step ah p b).re=w.re:=by
  unfold Wk.step Wk.calm Wk.walked Wk.wake
  repeat' split
  all_goals exact⟨rfl,rfl⟩
 rw[h.1]
 generalize w.step ah p b=v at h
 have hv:=h.2
 unfold Wk.rowEnd Wk.turn
 dsimp only
 split
 .split
  .exact ⟨u+1,r++[u+1],by simp only[length_append,length_cons,length_nil,hv];omega,rfl⟩
  .exact ⟨u+1,r++[u+1],by simp only[length_append,length_cons,length_nil,hv];omega,rfl⟩
 .exact ⟨u+1,r,by rw[hv];exact hr,rfl⟩
theorem Ygl {xs:List Int}{w:Wk}{bs:List Bool}(T:Tell xs w bs):∀(u:Int) (r:List Int),r.length<=w.re.length->Tell xs {w with us:=u,re:=r} bs:=by
 induction T with
 |done h=>exact λu r _=>Tell.done h
 | @step w ah p bs h h5 hf e hp h1 t ih=>
  intro u r hr
  obtain⟨u',r',g1,g2⟩:=Ygs (ah:=ah) (p:=p) (b:=Xk8 xs w.pl p) u r hr
  refine Tell.step (w:={w with us:=u,re:=r}) (ah:=ah) (p:=p) h h5 ⟨by have:=hf.1;dsimp only;omega,hf.2.1,hf.2.2⟩ e hp h1 ?_
  show Tell xs ((Wk.step {w with us:=u,re:=r} ah p (Xk8 xs w.pl p)).rowEnd) bs
  rw[g2]
  exact ih u' r' g1
theorem Xyv {xs:List Int}{n:Nat}{bs:List Bool}(hm:0<xs.length)(hx:∀x∈xs,x.natAbs<2^n)(hn:n<5000)(T:Tell xs (wk0 xs.length (n+1)) bs):∃cs,bs=false::cs/\Tell xs (wk0 xs.length n) cs:=by
 have e1:wk0 xs.length (n+1)=⟨n,0,[],[],[⟨0,0,xs.length,1-2^(n+1),2^(n+1)-1⟩]⟩:=by
  unfold wk0 Wk.turn
  rw[if_pos (by dsimp only;omega)]
  dsimp only
  rw[show ((n+1:Nat):Int)-1=n by omega]
  rfl
 rw[e1]at T
 cases T with
 |done h=>dsimp only at h;omega
 | @step _ ah p cs h h5 hf e hp h1 t=>
  obtain⟨rfl,e2⟩:=append_inj' (show []++[_]=ah++[p] from e) rfl
  cases e2
  have ha:Xk8 xs n ⟨0,0,xs.length,1-2^(n+1),2^(n+1)-1⟩=false:=by
   unfold Xk8
   dsimp only
   rw[if_neg (by decide),if_neg (by decide),List.any_eq_false]
   intro x hx'
   have:=hx x (List.mem_of_mem_drop (mem_of_mem_take hx'))
   have:¬ n<ibN x:=λz=>by
    have:=Xyd.mpr z
    clear hm h h5;omega
   simp only[decide_eq_true_eq]
   omega
  dsimp only at t ⊢
  rw[ha]at t ⊢
  refine⟨cs,rfl,?_⟩
  have q:=Ygl t 0 [] (zero_le _)
  have e3:wk0 xs.length n={(Wk.step ⟨n,0,[],[],[⟨0,0,xs.length,1-2^(n+1),2^(n+1)-1⟩]⟩ [] ⟨0,0,xs.length,1-2^(n+1),2^(n+1)-1⟩ false).rowEnd with us:=0,re:=[]}:=by
   unfold wk0 Wk.step Wk.calm Wk.walked
   dsimp only
   rw[if_neg (by decide),if_neg (by decide),if_neg (by decide),if_neg (by decide)]
   unfold Wk.rowEnd
   rw[if_pos rfl]
   unfold Wk.turn
   dsimp only
   split<;>simp
  rw[e3]
  exact q
theorem Xpf {xs:List Int}(hm:0<xs.length):∀(k n:Nat) {as bs:List Bool},(∀x∈xs,x.natAbs<2^n)->n+k<=5000->Tell xs (wk0 xs.length (n+k)) as->Tell xs (wk0 xs.length n) bs->as=List.replicate k false++bs
 | 0,n,as,bs,_,_,ta,tb=>Xvp ta tb
 |k+1,n,as,bs,hx,h5,ta,tb=>by
  obtain⟨cs,rfl,tc⟩:=Xyv hm (n:=n+k) (λx z=>lt_of_lt_of_le (hx x z) (pow_le_pow_right (by decide) (by omega))) (by omega) ta
  rw[Xpf hm k n hx (by omega) tc tb]
  rfl
theorem Yim {n i j:Nat}(h:i<=j)(hj:j<=n):Builtin.Str.strSliceIndices (some (i:Int)) (some (j:Int)) 1 n=(List.range (j-i)).map λk=>i+k:=by
 unfold Builtin.Str.strSliceIndices sliceRange
 have e0:¬ ((i:Int)<0):=by omega
 have e1:¬ ((j:Int)<0):=by omega
 simp only[e0,e1,if_false,show (1:Int) > 0 by decide,if_true]
 have e:max 0 (min (i:Int) (n:Int))=(i:Int):=by omega
 have e':max 0 (min (j:Int) (n:Int))=(j:Int):=by omega
 rw[e,e']
 have c:(if (i:Int)<(j:Int) then ((j:Int)-(i:Int)+1-1) / 1 else 0).toNat=j-i:=by
  split
  .rw [ediv_one];(clear h hj e0 e1;omega)
  .omega
 rw[c]
 refine map_congr_left λk _=>?_
 clear h hj e0 e1 e' c;omega
theorem Ygk (x:Str){i j:Nat}(h:i<=j)(hj:j<=x.length):Txt.slice x (some (i:Int)) (some (j:Int))=Str.mk (List.toArray ((x.cps.toList.drop i).take (j-i))):=by
 have e:((List.range (j-i)).map λk=>i+k).filterMap (x.cps[·]?)=(x.cps.toList.drop i).take (j-i):=by
  rw[List.filterMap_map]
  rw[<- Ybs (x.cps.toList.drop i) (show j-i<=(x.cps.toList.drop i).length by rw[length_drop,length_toList];have:x.cps.size=x.length:=rfl;omega)]
  refine congrArg (λg=>List.filterMap g _) (funext λk=>?_)
  simp[getElem?_drop]
 unfold Txt.slice
 rw[Yim h hj]
 split
 .rename_i c
  have hc:j-i=x.length:=by simpa using c
  have hi:i=0:=by omega
  subst hi
  show x=Str.mk (List.toArray ((x.cps.toList.drop 0).take (j-0)))
  rw[List.drop_zero,hc,take_of_length_le (by rw[length_toList];exact Nat.le_refl _)]
 .rw [e]
theorem Ygq (bs:List Bool){i j:Nat}(h:i<=j)(hj:j<=bs.length):Txt.slice (Xbv bs) (some (i:Int)) (some (j:Int))=Xbv ((bs.take j).drop i):=by
 rw[Ygk _ h (by rw[Xbh];exact hj)]
 have e:Xbv bs=Xbv (bs.take i)++(Xbv ((bs.take j).drop i)++Xbv (bs.drop j)):=by
  rw[<- Xes,<- Xes]
  congr 1
  have h1:=take_append_drop i (bs.take j)
  rw[take_take,min_eq_left h]at h1
  rw[<- append_assoc,h1,take_append_drop]
 have l1:(Xbv (bs.take i)).cps.toList.length=i:=by
  have:=Xbh (bs.take i)
  rw[length_take,min_eq_left (by omega)]at this
  rw[length_toList]
  exact this
 have l2:(Xbv ((bs.take j).drop i)).cps.toList.length=j-i:=by
  have:=Xbh ((bs.take j).drop i)
  rw[length_drop,length_take,min_eq_left hj]at this
  rw[length_toList]
  exact this
 rw[e]
 show Str.mk (List.toArray ((((Xbv (bs.take i)).cps++((Xbv ((bs.take j).drop i)).cps++(Xbv (bs.drop j)).cps)).toList.drop i).take (j-i)))=_
 rw[toList_append,toList_append,List.drop_append_of_le_length (by omega),List.drop_of_length_le (by omega),nil_append,List.take_append_of_le_length (by omega),take_of_length_le (by omega)]
theorem Xyc {x:Int}(h1 : -(2^250)<x)(h2:x<2^250):ibN x<=1000:=le_trans (Yf1 (n:=250) h1 h2) (by decide)
theorem Ylc {x:Int}(h:ibN x<=1000):ibN x<=2000000:=by omega
theorem Ymf {a b c:D}:atI [a,b,c] 0=some a:=rfl
theorem Yme {a b c:D}:atI [a,b,c] 1=some b:=rfl
theorem Ymd {a b c:D}:atI [a,b,c] 2=some c:=rfl
def Yif (c:Int):Lf:=⟨c%2,c / 2%17-8,c / 34%17-8,c / 578%129-64,c / 74562%9⟩
theorem Yd9 (x:Int):(Yif x).Ok:=by
 unfold Yif
 exact⟨by show x%2=0∨x%2=1;omega,by show -8<=x / 2%17-8/\x / 2%17-8<=8;omega,by show -8<=x / 34%17-8/\x / 34%17-8<=8;omega,by show -64<=x / 578%129-64/\x / 578%129-64<=64;omega,by show 0<=x / 74562%9/\x / 74562%9<=8;omega⟩
theorem Yog:(⟨1,-1,-1,1,1⟩:Lf).Ok:=⟨by decide,by decide,by decide,by decide,by decide⟩
theorem Yof:(⟨0,1,1,2,2⟩:Lf).Ok:=⟨by decide,by decide,by decide,by decide,by decide⟩
theorem Yph:(⟨1,-1,0,0,0⟩:Lf).Ok:=⟨by decide,by decide,by decide,by decide,by decide⟩
theorem Ypg:(⟨0,0,1,0,1⟩:Lf).Ok:=⟨by decide,by decide,by decide,by decide,by decide⟩
theorem Ypi:(⟨1,-1,-1,4,3⟩:Lf).Ok:=⟨by decide,by decide,by decide,by decide,by decide⟩
def Ym8:D:=.tup [lfD ⟨1,-1,-1,1,1⟩,lfD ⟨0,1,1,2,2⟩]
abbrev Xib:Stmt:=top 91
theorem Xds:FnScope ["_law_script","_law_kind","_law_line","_law_found","_law_k","_law_cell"] ["_law_script","_law_kind"] (Xaf Xib):=by walk_at "S"
def Xka:DSp:=λds P=>∃(ns:List Int) (b:Int),ds=[.lst (ns.map .int),.int b]/\(0<=b/\b<8)/\∀fs:List Lf,(∀f∈fs,f.Ok)->fs.length<=6->P (.fz (Xge fs))
theorem Xqy {f:Addr}{fd:FuncData}(Df:DefAt K mg "_law_ladder" Xib f fd)(B:BltV mg)(KV:KitV K)(Xbu:Cal P w K mg base "_law_cell_at" 1 ["_law_script","_law_k"] (spV K 2 Xf3)):
  Cal P w K mg base "_law_ladder" 2 ["_law_script","_law_kind"] (spV K 2 Xka):=by
 refine CalV.of Df Xds (by walk_at "b") rfl (λc A o s H E hr=>⟨_,_,(Xah (Xa9 (i:=2) Xds.nd rfl (Or.inl rfl) (Xbd (Xaa (Xbd (Xaa Xaj (Xaa (Xss Xl1 Xaj) (Xaa (Xss Xl1 Xaj) (Xaa Xaj (Xaa Xaj Xad)))))) (Xaa (Xbd (Xaa Xaj (Xaa Xaj (Xaa Xaj (Xaa Xaj (Xaa Xaj Xad)))))) Xad))))
   (Xah (Xcm (Xbq Xn1 (pv 1) Xaj (Xbo _)) (Xal (Xa1 (Xax Xbr (Xb8 (Xaa (Xbd Xad) (Xaa (Xbd (Xaa (Xbd (Xaa Xaj (Xaa (Xss Xl1 Xaj) (Xaa Xaj (Xaa Xaj (Xaa Xaj Xad)))))) (Xaa (Xbd (Xaa Xaj (Xaa Xaj (Xaa Xaj (Xaa Xaj (Xaa Xaj Xad)))))) Xad))) (Xaa (pv 2) (Xaa (Xaw Ydw (pv 2) (Xbd (Xaa (Xbd (Xaa Xaj (Xaa (Xss Xl1 Xaj) (Xaa (Xss Xl1 Xaj) (Xaa Xaj (Xaa Xaj Xad)))))) Xad))) Xad))))) (pv 1) (λ_ _=>rfl)))) Xbg)
   (Xah (Xa9 (i:=3) Xds.nd rfl (Or.inl rfl) (Xb8 Xad))
   (Xah (Xcv PassesOwn.never rfl (Xdv (by rfl) (by exact B.range) (Xaa (Xaw Xdl (pv 1) Xaj) Xad)) (Xau (i:=4) Xds.nd rfl (Or.inl rfl)) (Xah (Xa9 (i:=5) Xds.nd rfl (Or.inl rfl) (Xaw Xdm (Xaw Xet (Xa0 Xbu (hr.mono (by decide)) (by rfl) (Xaa (pv 0) (Xaa (Xaw Xc5 Xaj (pv 4)) Xad))) Xaj) Xaj))
   (Xal (Xbl (Xik plainAttrs_list PySem.F.slot_list_append PySem.F.type_list_append Xci (pv 3) (Xaa (Xbd (Xaa (Xaw Xdm (pv 5) Xaj) (Xaa (Xaw Xdl (Xaw Xdm (Xaw Xlm (pv 5) Xaj) Xaj) Xaj) (Xaa (Xaw Xdl (Xaw Xdm (Xaw Xlm (pv 5) Xaj) Xaj) Xaj) (Xaa (Xaw Xdl (Xaw Xdm (Xaw Xlm (pv 5) Xaj) Xaj) Xaj) (Xaa (Xaw Xdm (Xaw Xlm (pv 5) Xaj) Xaj) Xad)))))) Xad))))))
   (Xal (Xa1 (Xdz Xvh (by rfl) B.tuple PyProof.Rows.boot_tuple (Xaa (pv 3) Xad)))))))),
  (Xam (Xa8 (Xbk (Xbx (Xab (Xbx (Xab Xae (Xab (Xl9 (Xap Xae)) (Xab (Xl9 (Xap Xae)) (Xab Xae (Xab Xae Xak)))))) (Xab (Xbx (Xab Xae (Xab Xae (Xab Xae (Xab Xae (Xab Xae Xak)))))) Xak)))))
   (Xam (Xcl (Xbp (Xaq Xf9 Xac (Xap Xae))) (Xa4 (Xbk (Xbj Xch (Xb4 (Xc4 (Xby (Xbk (Xbx Xak)) (Xby (Xbk (Xbx (Xab (Xbx (Xab Xae (Xab (Xl9 (Xap Xae)) (Xab Xae (Xab Xae (Xab Xae Xak)))))) (Xab (Xbx (Xab Xae (Xab Xae (Xab Xae (Xab Xae (Xab Xae Xak)))))) Xak)))) (Xby (Xbk Xag) (Xby (Xbk (Yg9 Xag (Xbx (Xab (Xbx (Xab Xae (Xab (Xl9 (Xap Xae)) (Xab (Xl9 (Xap Xae)) (Xab Xae (Xab Xae Xak)))))) Xak)))) Xb7)))))) Xag))) Xbf)
   (Xam (Xa8 (Xc4 Xb7))
   (Xam (Xcu (Xhe (Xai (Xap (Xaq Xb5 Xac (Xap Xae))) Xan)) Xav (Xam (Xa8 (Xbk (Xaq Xdd (Xap (Xaq Xdd (Xap (Xb4 (Xat (Xab Xag (Xab (Xaq Xb5 (Xap Xae) Xac) Xak))))) (Xap Xae))) (Xap Xae))))
   (Xse (Xbk (Xbx (Xab (Xaq Xdd Xac (Xap Xae)) (Xab (Xaq Xb5 (Xap (Xaq Xdd (Xap (Xaq Xdd Xac (Xap Xae))) (Xap Xae))) (Xap Xae)) (Xab (Xaq Xb5 (Xap (Xaq Xdd (Xap (Xaq Xdd Xac (Xap Xae))) (Xap Xae))) (Xap Xae)) (Xab (Xaq Xb5 (Xap (Xaq Xdd (Xap (Xaq Xdd Xac (Xap Xae))) (Xap Xae))) (Xap Xae)) (Xab (Xaq Xdd (Xap (Xaq Xdd Xac (Xap Xae))) (Xap Xae)) Xak))))))))))
   (Ye9 3 (Xa4 (Yc6 Yl8 (Xab Xag Xak)))))))),?_⟩)
 rintro ds Pr ⟨ns,b,rfl,⟨m0,m6⟩,k⟩
 gn_on
 gp_on
 gn_on
 split
 .refine ⟨by simp,by simp,?_⟩
  have hm:b=0∨b=1∨b=2∨b=3:=by omega
  rcases hm with h |h |h |h
  .rw [h]
   exact⟨_,Xw7,k [] (λf hf=>by cases hf) (by decide)⟩
  .rw [h]
   refine⟨_,Yge,k [⟨1,-1,0,0,0⟩,⟨0,0,1,0,1⟩] ?_ (by decide)⟩
   intro f hf
   simp only[mem_cons,mem_nil_iff,or_false]at hf
   rcases hf with rfl |rfl
   .exact Yph
   .exact Ypg
  .rw [h]
   refine⟨_,Ygd,k [⟨1,-1,-1,1,1⟩,⟨0,1,1,2,2⟩] ?_ (by decide)⟩
   intro f hf
   simp only[mem_cons,mem_nil_iff,or_false]at hf
   rcases hf with rfl |rfl
   .exact Yog
   .exact Yof
  .rw [h]
   refine⟨_,Ygc,k [⟨1,-1,-1,1,1⟩,⟨0,1,1,2,2⟩,⟨1,-1,-1,4,3⟩] ?_ (by decide)⟩
   intro f hf
   simp only[mem_cons,mem_nil_iff,or_false]at hf
   rcases hf with rfl |rfl |rfl
   .exact Yog
   .exact Yof
   .exact Ypi
 rename_i hb4
 gp_on
 fin2
 refine⟨⟨by omega,by omega⟩,λi M=>∃(o1 o2:Option Sl) (fs:List Lf),M=[vD (.lst (ns.map .int)),vI b,vD Ym8,some (.own (.nl (fs.map λf=>.fz (lfD f)))),o1,o2]/\(∀f∈fs,f.Ok)/\fs.length=i,⟨none,none,[],rfl,(λf hf=>by cases hf),rfl⟩,?_,?_⟩
 .rintro i d M hd ⟨o1,o2,fs,rfl,ok,hl⟩
  obtain⟨hi,rfl⟩:=Xfj hd
  gn_on
  refine⟨ns,_,rfl,by omega,?_⟩
  fin2
  gp_on
  generalize ns.getD _ 0*48271%2147483647=c
  fin2
  refine⟨by omega,vI (0+(i:Int)*1),vI c,fs++[Yif c],?_,?_,by simp[hl]⟩
  .rw [map_append];rfl
  .intro f hf
   rcases mem_append.mp hf with y |y
   .exact ok f y
   .rw [mem_singleton.mp y];exact Yd9 c
 .rintro M ⟨o1,o2,fs,rfl,ok,hl⟩
  rw[Xdu]at hl
  fin2
  simp only[map_map,Function.comp_def,OV.val]
  exact k fs ok (by omega)
def Xjc:DSp:=λds P=>∃(cs:List Int) (w:Nat) (b:Int) (q:Nat),ds=[.lst (cs.map .int),.int w,.int b]/\cs.length<=8/\(∀m∈cs,ibN m<=1048576)/\1<=w/\w<=4/\(0<b/\b<=2^q/\6<=q)/\∀(h:Nat) (e:Nat->Nat->Int),1<=h->h<=8->(∀i j,-2^q<=e i j/\e i j<=2^q)->P (.nl (shT D.int h w e))
def Xnf:DSp:=λds P=>∃(cs:List Int),ds=[.lst (cs.map .int)]/\cs.length<=60/\(∀m∈cs,ibN m<=1048576)/\∀bs:List Bool,bs.length<=600->P (.fz (.str (Xbv bs)))
def Xj9:DSp:=λds P=>∃(h w:Nat) (p:Nat->Nat->Int) (e:Nat->Nat->Sp2),ds=[shI h w p,.lst (shV spD h w e)]/\h<=1000/\w<=1000/\(∀i j,i<h->j<w->(e i j).1<=p i j/\p i j<=(e i j).2)/\P (.fz (.bl true))
theorem Xme.map2 {α:Type}{Eo:DO}{o1 o2:Option Sl}{Xht:Dst}{P:OV->Prop}(xs:List α)(g1 g2:α->D)(f:α->OV)(hn:xs.length<=1000000)
  (h:∀x∈xs,∀Q:OV->Prop,Q (f x)->Eo (some (.own (.fz (g1 x)))::some (.own (.fz (g2 x)))::Xht) Q) (k:P (.nl (xs.map f))):Xme (gT 2 (Xhr (gN 0) (Xhr (gN 1) Xoh))) Eo (xs.map λx=>.tup [g1 x,g2 x]) (o1::o2::Xht) P:=by
 refine⟨λi M ts=>∃o1 o2,M=o1::o2::Xht/\ts=(xs.take i).map f,⟨o1,o2,rfl,by simp⟩,?_,?_⟩
 .rintro i d M ts hd ⟨o1,o2,rfl,rfl⟩
  obtain⟨x,hx,rfl⟩:=Xs6 hd
  obtain⟨hi,e⟩:=List.getElem?_eq_some_iff.mp hx
  refine⟨by rw[length_map,length_take];omega,?_⟩
  simp only[gT,Xhr,Xoh,gN,length_cons,length_nil,Nat.reduceAdd,true_and,set_cons_succ,set_cons_zero]
  refine h x (mem_of_getElem? hx) _ ⟨_,_,rfl,?_⟩
  rw[take_succ_eq_append_getElem hi,e,map_append]
  rfl
 .rintro M ts ⟨o1,o2,rfl,rfl⟩
  rw[length_map,take_length]
  exact k
theorem Xym {R:Nat}{f g:Nat->D}:List.map (λp:D×D=>D.tup [p.1,p.2]) ((tab R f).zip (tab R g))=tab R λi=>.tup [f i,g i]:=by
 unfold tab
 rw[List.zip_map',map_map]
 rfl
theorem Ynn (n:Nat):((List.range n).map λ_=>true).all id=true:=by simp
theorem Ygm {R i:Nat}{f:Nat->D}{d:D}(h:(tab R f)[i]?=some d):i<R/\d=f i:=by
 unfold tab at h
 rw[getElem?_map]at h
 by_cases z:i<R
 .rw [getElem?_range z]at h
  exact⟨z,(Option.some.inj h).symm⟩
 .rw [getElem?_eq_none (by rw[length_range];omega)]at h
  cases h
theorem Xve (cs:List Int)(a w:Nat):∃ys:List Int,L2.Xyk (cs.map D.int) (some (a:Int)) (some ((a+w:Nat):Int))=ys.map D.int/\ys.length<=w/\∀m∈ys,m∈cs:=by
 refine⟨(cs.drop (min a cs.length)).take (min (a+w) cs.length-min a cs.length),?_,?_,λm hm=>List.mem_of_mem_drop (mem_of_mem_take hm)⟩
 .unfold L2.Xyk
  rw[HT.sIx_nat,HT.sIx_nat,length_map,List.map_take,List.map_drop]
 .rw [length_take]
  omega
theorem Yjt (t:Int):1-t%2*2=1∨1-t%2*2 = -1:=by omega
theorem Xs5 (t:Int):t%3=0∨t%3=1∨t%3=2:=by omega
abbrev Xe2:Stmt:=top 92
theorem Xce:FnScope ["_law_cells","_law_wide","_law_bound","_law_rows","_law_start","_law_row","_law_k","_law_cell","_law_size"] ["_law_cells","_law_wide","_law_bound"] (Xaf Xe2):=by walk_at "S"
abbrev Xlg:Stmt:=top 93
theorem Xdg:FnScope ["_law_cells","_law_bits_here","_law_k","_law_cell","_law_drawn","_law_place"] ["_law_cells"] (Xaf Xlg):=by walk_at "S"
abbrev Xfu:Stmt:=top 94
theorem Xg1:FnScope ["_law_sheet","_law_spans","_law_row","_law_other"] ["_law_sheet","_law_spans"] (Xaf Xfu):=by walk_at "S"
abbrev Xxm:Stmt:=top 95
theorem Xc8:FnScope ["_law_script","_law_great","_law_ladder_here","_law_levels","_law_many","_law_wide","_law_picture_here","_law_head","_law_bits_here","_law_cut","_law_longer","_law_spans","_law_used","_law_whole","_law_other","_law_reader","_law_seen","_law_again","_law_anew","_law_lacks"] ["_law_script"] (Xaf Xxm):=by walk_at "S"
theorem Xo3 {f:Addr}{fd:FuncData}(Df:DefAt K mg "_law_picture" Xe2 f fd)(B:BltV mg)(KV:KitV K):
  Cal P w K mg base "_law_picture" 1 ["_law_cells","_law_wide","_law_bound"] (spV K 3 Xjc):=by
 refine CalV.of Df Xce (by walk_at "b") rfl (λc A o s H E hr=>⟨_,_,(Xah (Xa9 (i:=3) Xce.nd rfl (Or.inl rfl) (Xb8 Xad))
   (Xah (Xcv PassesOwn.never rfl (Xii (by rfl) (by exact B.range) (Xaa Xaj (Xaa (Xay (Yb4 rfl) (by rfl) B.max boot_max (Xaa Xaj (Xaa (Xay Xa2 (by rfl) B.len boot_len (Xaa (pv 0) Xad)) Xad))) (Xaa (pv 1) Xad)))) (Xau (i:=4) Xce.nd rfl (Or.inr rfl)) (Xah (Xa9 (i:=5) Xce.nd rfl (Or.inl rfl) (Xb8 Xad))
   (Xah (Xcv PassesOwn.never rfl (Yai rfl B.enumerate (Xaa (Xdx Xmt (pv 0) (Xc7 (pv 4)) (Xc7 (Xaw Xc5 (pv 4) (pv 1)))) Xad)) (Xgl (n:=2) rfl (Xbc (Xau (i:=6) Xce.nd rfl (Or.inl rfl)) (Xbc (Xau (i:=7) Xce.nd rfl (Or.inl rfl)) Xeg))) (Xah (Xa9 (i:=8) Xce.nd rfl (Or.inl rfl) (Xaw Xdm (Xaw Yar (Xay Xrg (by rfl) B.abs boot_abs (Xaa (pv 7) Xad)) (Xax Xbr (Xb8 (Xaa Xaj (Xaa Xaj (Xaa (Xaw Xc5 (Xaw Yfs Xaj Xaj) Xaj) Xad)))) (Xaw Xdm (Xaw Xc5 (pv 4) (pv 6)) Xaj) (λ_ _=>rfl))) (pv 2)))
   (Xal (Xbl (Xik plainAttrs_list PySem.F.slot_list_append PySem.F.type_list_append Xci (pv 5) (Xaa (Xaw Xet (pv 8) (Xaw Xdl Xaj (Xaw Xet (Xaw Xdm (Xaw Xdm (Xaw Xet (pv 7) Xaj) Xaj) Xaj) Xaj))) Xad))))))
   (Xal (Xbl (Xik plainAttrs_list PySem.F.slot_list_append PySem.F.type_list_append Xci (pv 3) (Xaa (Xaw Yas (pv 5) (Xdy rfl (Xdv (by rfl) (by exact B.range) (Xaa (Xaw Xdl (pv 1) (Xay Xa2 (by rfl) B.len boot_len (Xaa (pv 5) Xad))) Xad)) (show BlkScope (Xaf Xe2) _ from⟨rfl,by decide +kernel,by decide +kernel,by decide +kernel⟩) (N:=["_law_k","_law_start"]) (ix:=[none,some 4]) (show Xd1 _ _ _ _ from⟨⟨rfl,rfl,.inl rfl⟩,trivial⟩) (λ_ _ _=>(Xau (i:=0) (show List.Nodup (["_law_k","_law_start"]:List Str) by decide +kernel) rfl (Or.inl rfl))) (λ_ _ _=>(Xaw Xc5 (pv 1) (pv 0))))) Xad)))))))
   (Xal (Xa1 (pv 3))))),
  (Xam (Xa8 (Xc4 Xb7))
   (Xam (Xcu (Xnq (Xai (Xap Xae) (Xai (Xap (Xb0 Yiy (Xai (Xap Xae) (Xai (Xap (Xb0 Xcx (Xai Xac Xan))) Xan)))) (Xai Xac Xan)))) Xav (Xam (Xa8 (Xc4 Xb7))
   (Xam (Xcu (Xzy (Xab (Xb4 (Xv2 Xag (Xi9 Xac) (Xi9 (Xap (Xaq Xb5 Xac Xac))))) Xak)) (Xgk (Xbb Xav (Xbb Xav Xee))) (Xam (Xa8 (Xbk (Xaq Xdd (Xap (Xaq Xdd (Xap (Xb0 Ycb (Xai Xac Xan))) (Xbe (OpF.b Xch) (Xap (Xb4 (Xc4 (Xby (Xbk Xae) (Xby (Xbk Xae) (Xby (Xbk (Xaq Xb5 (Xap (Xaq Xdd (Xap Xae) (Xap Xae))) (Xap Xae))) Xb7)))))) (Xap (Xaq Xdd (Xap (Xaq Xb5 Xac Xac)) (Xap Xae)))))) Xac)))
   (Xse (Xbk (Xaq Xdd Xac (Xap (Xaq Xb5 (Xap Xae) (Xap (Xaq Xdd (Xap (Xaq Xdd (Xap (Xaq Xdd (Xap (Xaq Xdd Xac (Xap Xae))) (Xap Xae))) (Xap Xae))) (Xap Xae))))))))))
   (Xse (Xzu Xac (Xap (Xb4 (Xc6 (Xhe (Xai (Xap (Xaq Xb5 Xac (Xap (Xb0 Xcx (Xai Xac Xan))))) Xan)) Xav (Xbk (Xaq Xb5 Xac Xac))))))))))
   Xfh)),?_⟩)
 rintro ds Pr ⟨cs,w,b,q,rfl,hl,hb,w1,w4,⟨b0,bq,q6⟩,k⟩
 have h64:(64:Int)<=2^q:=by
  have:=pow_le_pow_right (show 0<2 by decide) q6
  exact_mod_cast this
 gn_on
 gp_on
 gn_on
 refine⟨⟨by omega,by omega,by omega,by omega⟩,λi M=>∃(e:Nat->Nat->Int) (o4 o5 o6 o7 o8:Option Sl),M=[vD (.lst (cs.map .int)),vI w,vI b,some (.own (.nl (shT D.int i w e))),o4,o5,o6,o7,o8]/\∀i j,-2^q<=e i j/\e i j<=2^q,⟨λ_ _=>0,none,none,none,none,none,rfl,λ_ _=>by dsimp only;omega⟩,?_,?_⟩
 .rintro i d M hd ⟨e,o4,o5,o6,o7,o8,rfl,he⟩
  obtain⟨hi,rfl⟩:=Xfj hd
  simp only[gN,length_cons,length_nil,Nat.reduceAdd,true_and,set_cons_succ,set_cons_zero]
  gn_on
  gp_on
  gn_on
  obtain⟨ys,ey,hyl,hym⟩:=Xve cs (i*w) w
  have ea:(0:Int)+(i:Int)*(w:Int)=((i*w:Nat):Int):=by rw[natCast_mul];omega
  have hi8:i*w<9:=by
   have:=(Xnr (lo:=0) (hi:=max 1 (cs.length:Int)) (c:=w) (by omega) i).mp hi
   rw[ea]at this
   omega
  rw[ea]
  generalize i*w=a at ey ea hi8
  rw[show ((a:Nat):Int)+(w:Int)=((a+w:Nat):Int) by omega,ey]
  have ev:List.map OV.val (List.map OV.fz (ys.map D.int))=ys.map D.int:=by rw[map_map];exact map_id'' (λ_=>rfl) _
  rw[ev,length_map]
  refine⟨by omega,λj M=>∃(xs:List Int) (o6 o7 o8:Option Sl),M=[vD (.lst (cs.map .int)),vI w,vI b,some (.own (.nl (shT D.int i w e))),vI a,some (.own (.nl (xs.map λx=>.fz (.int x)))),o6,o7,o8]/\xs.length=j/\∀x∈xs,-2^q<=x/\x<=2^q,⟨[],_,_,_,rfl,rfl,λx hx=>by cases hx⟩,?_,?_⟩
  .rintro j d M hd ⟨xs,o6,o7,o8,rfl,hx,hxb⟩
   obtain⟨j',hj,rfl⟩:=Xs6 hd
   have hil:j<ys.length:=by
    have:=(List.getElem?_eq_some_iff.mp hj).1
    simpa using this
   have hji:j'=j:=by
    rw[getElem?_range hil]at hj
    exact (Option.some.inj hj).symm
   subst hji
   have hgd:(ys.map D.int).getD j' .non = .int (ys.getD j' 0):=by simp[hil]
   have hcm:ys.getD j' 0∈ys:=by rw[getD_eq_getElem?_getD,getElem?_eq_getElem hil];exact getElem_mem hil
   rw[hgd]
   have hcb:=hb _ (hym _ hcm)
   generalize ys.getD j' 0=c at hcb
   simp only[gT,Xhr,Xoh,gN,length_cons,length_nil,Nat.reduceAdd,true_and,set_cons_succ,set_cons_zero]
   gn_on
   have hk3:=Xs5 ((a:Int)+(j':Int))
   generalize ((a:Int)+(j':Int))%3=k3 at hk3
   obtain⟨x,hxx,hat⟩:∃x:Int,ibN x<=1000/\atI [D.int 1,.int 48271,.int 100000000000000000007] k3=some (.int x):=by
    rcases hk3 with rfl |rfl |rfl
    .exact ⟨1,Xyc (by decide) (by decide),Ymf⟩
    .exact ⟨48271,Xyc (by decide) (by decide),Yme⟩
    .exact ⟨100000000000000000007,Xyc (by decide) (by decide),Ymd⟩
   have hab:ibN (c.natAbs:Int)=ibN c:=by simp[ibN]
   refine⟨_,hat,⟨by rw[hab];omega,Ylc hxx⟩,b0,?_⟩
   have s0:0<=(c.natAbs:Int)*x%b:=emod_nonneg _ (by omega)
   have s1:(c.natAbs:Int)*x%b<b:=Int.emod_lt_of_pos _ b0
   generalize (c.natAbs:Int)*x%b=s at s0 s1
   gp_on
   fin2
   have hz:=Yjt (c*16807%65537)
   generalize 1-c*16807%65537%2*2=z at hz
   refine⟨by omega,.inr ⟨by omega,by omega⟩,xs++[s*z],_,_,_,rfl,by simp[hx],λy hy=>?_⟩
   rcases mem_append.mp hy with y1 |y1
   .exact hxb y y1
   .rw [mem_singleton.mp y1]
    rcases hz with rfl |rfl
    .rw [mul_one]
     omega
    .rw [mul_neg,mul_one]
     omega
  .rintro M ⟨xs,o6,o7,o8,rfl,hx,hxb⟩
   rw[length_map,length_range]at hx
   gp_on
   fin2
   have hsl:(shT D.int i w e).length=i:=Xa7
   have hi9:i<9:=by
    have:=le_trans (le_of_eq (Nat.mul_one i).symm) (mul_le_mul_left i w1)
    have:i*w=a:=by exact_mod_cast (show (i:Int)*w=a by omega)
    clear hl b0 bq q6 h64 hi hyl hx;omega
   refine⟨by omega,⟨by omega,by omega⟩,?_⟩
   refine Xme.rng (λm=>.fz (.int (a+m))) (by omega) (λm hm Q z=>?_) ?_
   .fin2
    rw[show (a:Int)+(0+(m:Int)*1)=a+m by omega]
    exact z
   rw[Int.toNat_sub]
   have hv:OV.val (OV.nl ((List.range (w-xs.length)).map λm:Nat=>OV.fz (D.int ((a:Int)+m)))) = .lst (((List.range (w-xs.length)).map λm:Nat=>(a:Int)+m).map D.int):=by
    rw[OV.val,OV.vals_eq,map_map,map_map]
    rfl
   rw[hv]
   have hbz:∀x∈xs++(List.range (w-xs.length)).map (λm:Nat=>(a:Int)+m),-2^q<=x/\x<=2^q:=λx hx'=>by
    rcases mem_append.mp hx' with y |y
    .exact hxb x y
    .obtain ⟨m,hm,rfl⟩:=mem_map.mp y
     have:=mem_range.mp hm
     clear hl b0 bq hi ea hsl hi9;omega
   have hzl:(xs++(List.range (w-xs.length)).map (λm:Nat=>(a:Int)+m)).length=w:=by simp;omega
   dsimp only
   rw[<- map_append]
   generalize hzs:xs++(List.range (w-xs.length)).map (λm:Nat=>(a:Int)+m)=zs at hbz hzl
   have hrow:shT D.int i w e++[OV.nl (List.map OV.fz (zs.map D.int))]=shT D.int (i+1) w λr j=>if r=i then zs.getD j 0 else e r j:=by
    unfold shT
    rw[Ycp]
    refine Xcy λr _=>?_
    dsimp only
    by_cases y:r=i
    .simp only[if_pos y]
     congr 1
     rw[map_map,<- hzl]
     exact ext_getElem (by simp[tab]) λn h1 h2=>by
      have h3:n<zs.length:=by simpa using h1
      simp[tab,h3]
    .simp only[if_neg y]
   rw[hrow]
   refine⟨Xwp,Xwp,by simp;(clear hl b0 bq q6 h64 hi ea hi8 hsl hi9;omega),λr j=>if r=i then zs.getD j 0 else e r j,_,_,_,_,_,rfl,λr j=>?_⟩
   .dsimp only
    split
    .rw [getD_eq_getElem?_getD]
     by_cases y:j<zs.length
     .rw [getElem?_eq_getElem y]
      exact hbz _ (getElem_mem y)
     .rw [getElem?_eq_none (by omega)]
      show -2^q<=(0:Int)/\(0:Int)<=2^q
      omega
    .exact he r j
 .rintro M ⟨e,o4,o5,o6,o7,o8,rfl,he⟩
  rw[Xdu]
  gp_on
  fin2
  have hm:(max 1 (cs.length:Int))=((max 1 cs.length:Nat):Int):=by omega
  rw[hm]
  exact k _ e ((Xnr (by omega) 0).mpr (by omega)) (le_trans (Xz3 (by omega)) (by omega)) he
theorem Xuo {f:Addr}{fd:FuncData}(Df:DefAt K mg "_law_bits" Xlg f fd)(B:BltV mg)(KV:KitV K):
  Cal P w K mg base "_law_bits" 1 ["_law_cells"] (spV K 1 Xnf):=by
 refine CalV.of Df Xdg (by walk_at "b") rfl (λc A o s H E hr=>⟨_,_,(Xah (Xa9 (i:=1) Xdg.nd rfl (Or.inl rfl) Xij)
   (Xah (Xcv PassesOwn.never rfl (Yai rfl B.enumerate (Xaa (pv 0) Xad)) (Xgl (n:=2) rfl (Xbc (Xau (i:=2) Xdg.nd rfl (Or.inl rfl)) (Xbc (Xau (i:=3) Xdg.nd rfl (Or.inl rfl)) Xeg))) (Xah (Xa9 (i:=4) Xdg.nd rfl (Or.inl rfl) (Xaw Xdm (Xaw Yar (pv 3) (Xax Xbr (Xb8 (Xaa Xaj (Xaa Xaj (Xaa Xaj Xad)))) (Xaw Xdm (pv 2) Xaj) (λ_ _=>rfl))) Xaj))
   (Xal (Xcv PassesOwn.never rfl (Xdv (by rfl) (by exact B.range) (Xaa (Xaw Xc5 Xaj (Xaw Xdm (pv 4) Xaj)) Xad)) (Xau (i:=5) Xdg.nd rfl (Or.inl rfl)) (Xal (Yfn (i:=1) Xdg.nd rfl (Or.inl rfl) (Xdz Xtr (by rfl) B.str PyProof.Rows.boot_str (Xaa (Xaw Yat (Xaw Xps (pv 4) (Xaw Xc5 Xaj (pv 5))) Xaj) Xad)) Xu3))))))
   (Xal (Xa1 (pv 1))))),
  (Xam (Xa8 (Xbk Xif))
   (Xam (Xcu (Xzy (Xab Xag Xak)) (Xgk (Xbb Xav (Xbb Xav Xee))) (Xam (Xa8 (Xbk (Xaq Xdd (Xap (Xaq Xdd Xac (Xbe (OpF.b Xch) (Xap (Xb4 (Xc4 (Xby (Xbk Xae) (Xby (Xbk Xae) (Xby (Xbk Xae) Xb7)))))) (Xap (Xaq Xdd Xac (Xap Xae)))))) (Xap Xae))))
   (Xcu (Xhe (Xai (Xap (Xaq Xb5 (Xap Xae) (Xap (Xaq Xdd Xac (Xap Xae))))) Xan)) Xav (Yfb Xq3 (Xap (Xb0 Yl6 (Xai (Xap (Xaq Xb5 (Xap (Xaq Xdd Xac (Xap (Xaq Xb5 (Xap Xae) Xac)))) (Xap Xae))) Xan)))))))
   (Xa4 (Xbk Xag)))),?_⟩)
 rintro ds Pr ⟨cs,rfl,hl,hb,h⟩
 gn_on
 gp_on
 gn_on
 refine⟨by omega,λi M=>∃(bs:List Bool) (o3 o4 o5 o6:Option Sl),M=[vD (.lst (cs.map .int)),vD (.str (Xbv bs)),o3,o4,o5,o6]/\bs.length<=4*i,⟨[],none,none,none,none,by rw[Xgf];rfl,by simp⟩,?_,?_⟩
 .rintro i d M hd ⟨bs,o3,o4,o5,o6,rfl,hbl⟩
  obtain⟨j,hj,rfl⟩:=Xs6 hd
  have hil:i<cs.length:=by
   have:=(List.getElem?_eq_some_iff.mp hj).1
   simpa using this
  have hji:j=i:=by
   rw[getElem?_range hil]at hj
   exact (Option.some.inj hj).symm
  subst hji
  have hgd:(cs.map D.int).getD j .non = .int (cs.getD j 0):=by simp[hil]
  have hcm:cs.getD j 0∈cs:=by rw[getD_eq_getElem?_getD,getElem?_eq_getElem hil];exact getElem_mem hil
  rw[hgd]
  have hcb:=hb _ hcm
  generalize cs.getD j 0=c at hcb
  simp only[gT,Xhr,Xoh,gN,length_cons,length_nil,Nat.reduceAdd,true_and,set_cons_succ,set_cons_zero]
  gn_on
  have hk:=Xs5 j
  generalize (j:Int)%3=k3 at hk
  obtain⟨x,hx,hat⟩:∃x:Int,ibN x<=1000/\atI [D.int 48271,.int 69621,.int 16807] k3=some (.int x):=by
   rcases hk with rfl |rfl |rfl
   .exact ⟨48271,Xyc (by decide) (by decide),Ymf⟩
   .exact ⟨69621,Xyc (by decide) (by decide),Yme⟩
   .exact ⟨16807,Xyc (by decide) (by decide),Ymd⟩
  refine⟨_,hat,⟨by omega,Ylc hx⟩,?_⟩
  gp_on
  have hd0:0<=c*x%2147483647:=emod_nonneg _ (by decide)
  generalize c*x%2147483647=dr at hd0
  fin2
  have hr:1<=1+dr%4/\1+dr%4<=4:=by omega
  generalize 1+dr%4=rr at hr
  refine⟨⟨by omega,by omega⟩,λi M=>∃(es:List Bool) (o6:Option Sl),M=[vD (.lst (cs.map .int)),vD (.str (Xbv es)),vI j,vI c,vI dr,o6]/\es.length<=4*j+i,⟨bs,o6,rfl,by omega⟩,?_,?_⟩
  .rintro i d M hd ⟨es,o6,rfl,hel⟩
   obtain⟨hi,rfl⟩:=Xfj hd
   simp only[gN,set_cons_succ,set_cons_zero]
   fin2
   have shr:∀n:Nat,∃g:Nat,dr / 2^n=g:=λn=>⟨_,(toNat_of_nonneg (ediv_nonneg hd0 (Int.le_of_lt (Int.pow_pos (by decide))))).symm⟩
   obtain⟨g,hg⟩:=shr (4+(0+(i:Int)*1)).toNat
   have hlt:g%2<2:=Nat.mod_lt _ (by decide)
   rw[hg,Ymb]
   refine⟨by omega,?_⟩
   generalize g%2=b at hlt
   rw[Ygr _ hlt,Xmz,Xbh]
   refine⟨?_,by (clear hbl hcb hx hd0 hg;omega),es++[decide (b=1)],some (Sl.own (OV.fz (D.int (0+(i:Int)*1)))),?_,by simp;omega⟩
   .rcases (show b=0∨b=1 by (clear hl hbl hil hcb hx hd0 hr hel hi hg;omega)) with z |z<;>rw[z]<;>decide
   .rw [Xes,Xdi,Xgf,show (Xk7 (decide (b=1))++Str.empty)=Xk7 (decide (b=1)) from Str.append_empty _]
  .rintro M ⟨es,o6,rfl,hel⟩
   rw[Xdu]at hel
   exact⟨es,_,_,_,_,rfl,by omega⟩
 .rintro M ⟨bs,o3,o4,o5,o6,rfl,hbl⟩
  gp_on
  fin2
  rw[length_map,length_range]at hbl
  exact h bs (by omega)
theorem Xqx {f:Addr}{fd:FuncData}(Df:DefAt K mg "_law_within" Xfu f fd)(B:BltV mg)(KV:KitV K):
  Cal P w K mg base "_law_within" 1 ["_law_sheet","_law_spans"] (spV K 2 Xj9):=by
 refine CalV.of Df Xg1 (by walk_at "b") rfl (λc A o s H E hr=>⟨_,_,(Xah (Xcv PassesOwn.never rfl (Yag rfl B.zip (Xaa (pv 0) (Xaa (pv 1) Xad))) (Xgl (n:=2) rfl (Xbc (Xau (i:=2) Xg1.nd rfl (Or.inl rfl)) (Xbc (Xau (i:=3) Xg1.nd rfl (Or.inl rfl)) Xeg))) (Xal (Xcm (Xdk (Xcr (Xay (Xgp rfl) (by rfl) B.all boot_all (Xaa (Xdy rfl (Yag rfl B.zip (Xaa (pv 2) (Xaa (pv 3) Xad))) (show BlkScope (Xaf Xfu) _ from⟨rfl,by decide +kernel,by decide +kernel,by decide +kernel⟩) (N:=["_law_number","_law_span"]) (ix:=[none,none]) (show Xd1 _ _ _ _ from trivial) (λ_ _ _=>(Xgl (n:=2) rfl (Xbc (Xau (i:=0) (show List.Nodup (["_law_number","_law_span"]:List Str) by decide +kernel) rfl (Or.inl rfl)) (Xbc (Xau (i:=1) (show List.Nodup (["_law_number","_law_span"]:List Str) by decide +kernel) rfl (Or.inl rfl)) Xeg)))) (λ_ _ _=>(Xwh Ydv Ydv (Xax Xas (pv 1) Xaj (λ_ _=>rfl)) (pv 0) (Xax Xas (pv 1) Xaj (λ_ _=>rfl))))) Xad)))) (Xal (Xa1 Xkp)) Xbg)))
   (Xal (Xa1 Xkp))),
  (Xam (Xcu (Xzx (Xab Xag (Xab Xag Xak))) (Xgk (Xbb Xav (Xbb Xav Xee))) (Xcl (Xdj (Xmk (Xb0 Xp7 (Xai (Xap (Xb4 (Xc6 (Xzx (Xab Xag (Xab Xag Xak))) (Xgk (Xbb Xav (Xbb Xav Xee))) (Xbk (Xv4 Xf9 Xf9 (Xbe (OpF.b Xar) Xac (Xap Xae)) Xac (Xbe (OpF.b Xar) Xac (Xap Xae))))))) Xan)))) (Xa4 (Xbk Xkk)) Xbf))
   (Xa4 (Xbk Xkk))),?_⟩)
 rintro ds Pr ⟨h,w,p,e,rfl,hh,hw,hin,k⟩
 unfold shI
 fin2
 unfold shV
 rw[Xym]
 refine⟨λi M=>∃(o2 o3:Option Sl),M=[vD (.lst (tab h λi=>.lst (tab w λj=>.int (p i j)))),vD (.lst (tab h λi=>.lst (tab w λj=>spD (e i j)))),o2,o3],⟨_,_,rfl⟩,?_,?_⟩
 .rintro i d M hd ⟨o2,o3,rfl⟩
  obtain⟨hi,rfl⟩:=Ygm hd
  simp only[gT,Xhr,Xoh,gN,length_cons,length_nil,Nat.reduceAdd,true_and,set_cons_succ,set_cons_zero]
  fin2
  rw[Xym]
  refine Xme.map2 (List.range w) (λj=>D.int (p i j)) (λj=>spD (e i j)) (λ_=>.fz (.bl true)) (by rw[length_range];omega) (λj hj Q q=>?_) ?_
  .obtain ⟨z1,z2⟩:=hin i j hi (mem_range.mp hj)
   generalize e i j=s at z1 z2
   generalize p i j=x at z1 z2
   unfold spD
   fin2
   rw[if_pos z1,decide_eq_true z2]
   exact q
  fin2
  refine⟨(List.range w).map λ_=>true,by rw[map_map,map_map];rfl,?_⟩
  rw[Ynn,if_neg (by decide)]
  exact⟨_,_,rfl⟩
 .rintro M ⟨o2,o3,rfl⟩
  fin2
  exact k
abbrev Ydu (h w L:Nat)(fs:List Lf)(xs:List Int):Nat->Nat->Int:=Xdq 0 (λk=>Xcw fs (2^k:Nat)) h w L 0 λi j=>xs.getD (Xhw h w L i j) 0
theorem Yd3 {h w L:Nat}{fs:List Lf}(ok:∀f∈fs,f.Ok){xs:List Int}(hx:xs.length=h*w):Xex h w (Ydu h w L fs xs) fs L=xs:=by
 have hdn:∀(k:Nat) (r:List Int),(Xcw fs (2^k:Nat) r).length=r.length:=λk r=>by rw[Ya8,Xlv]
 have hbk:∀(k:Nat) (r:List Int),Xbs fs (2^k:Nat) (Xcw fs (2^k:Nat) r)=r:=λk r=>Xns (by exact_mod_cast Nat.pow_pos (by decide)) r λf hf=>(ok f hf).h
 have hlo:=Xwq (z:=(0:Int)) (h:=h) (w:=w) (up:=λk=>Xbs fs (2^k:Nat)) (dn:=λk=>Xcw fs (2^k:Nat)) hdn hbk L λi j=>xs.getD (Xhw h w L i j) 0
 unfold Xex
 refine ext_getElem? λk=>?_
 rw[getElem?_map]
 cases hp:(Xbz h w L)[k]? with
 |none=>
  have:=List.getElem?_eq_none_iff.mp hp
  rw[Xef]at this
  exact (getElem?_eq_none (by omega)).symm
 |some p=>
  have hk:=(List.getElem?_eq_some_iff.mp hp).1
  rw[Xef]at hk
  obtain⟨⟨p0,p1⟩,p2,p3⟩:=Xhh (mem_of_getElem? hp)
  obtain⟨i,hi⟩:∃i:Nat,p.1=i:=⟨p.1.toNat,by omega⟩
  obtain⟨j,hj⟩:∃j:Nat,p.2=j:=⟨p.2.toNat,by omega⟩
  obtain rfl:p=((i:Int),(j:Int)):=Prod.ext hi hj
  have q:=hlo i j (by omega) (by omega)
  have e:=Yae (by (clear hx hk q;omega)) (by (clear hx hk p1 q;omega)) hp
  show some (Xrr 0 (λk=>Xbs fs (2^k:Nat)) h w L (Ydu h w L fs xs) (i:Int).toNat (j:Int).toNat)=_
  rw[toNat_natCast,toNat_natCast]
  refine (congrArg some q).trans ?_
  dsimp only
  rw[e,getD_eq_getElem?_getD,getElem?_eq_getElem (by (clear q;omega))]
  rfl
theorem Xwk {h w L:Nat}{fs:List Lf}(ok:∀f∈fs,f.Ok){e:Nat->Nat->Int}:eqS h w (Ydu h w L fs (Xex h w e fs L)) e:=by
 have hup:∀(k:Nat) (r:List Int),(Xbs fs (2^k:Nat) r).length=r.length:=λk r=>by rw[Xz8,Xis]
 have hbk:∀(k:Nat) (r:List Int),Xcw fs (2^k:Nat) (Xbs fs (2^k:Nat) r)=r:=λk r=>Xn9 (by exact_mod_cast Nat.pow_pos (by decide)) r λf hf=>(ok f hf).h
 have hol:=Xwl (z:=(0:Int)) (h:=h) (w:=w) (up:=λk=>Xbs fs (2^k:Nat)) (dn:=λk=>Xcw fs (2^k:Nat)) hup hbk L 0 e (zero_le _)
 have hq:eqS h w (λi j=>(Xex h w e fs L).getD (Xhw h w L i j) 0) (Xrr 0 (λk=>Xbs fs (2^k:Nat)) h w L e):=λi j hi hj=>by
  show (Xex h w e fs L).getD (Xhw h w L i j) 0=_
  rw[getD_eq_getElem?_getD,Xex,getElem?_map,Xqs hi hj]
  rfl
 exact (Xn0 (z:=(0:Int)) (op:=λk=>Xcw fs (2^k:Nat)) L 0 hq).trans hol
theorem Xxg {h w L:Nat}{e:Nat->Nat->Int}{fs:List Lf}(ok:∀f∈fs,f.Ok){v:Wk}(S:Shp ((h*w:Nat):Int) v)(C:Xd4 (Xex h w e fs L) v)(hv:v.pl<0){i j:Nat}(hi:i<h)(hj:j<w):Xmh h w L fs v i j=(e i j,e i j):=by
 have q:Ydu h w L fs (Xex h w e fs L) i j=e i j:=Xwk ok i j hi hj
 rw[Xqe ok Xq4 S C hv hi hj]
 exact Prod.ext q q
theorem Yd4 {h w L:Nat}{fs:List Lf}{e e':Nat->Nat->Int}(q:eqS h w e e'):Xex h w e fs L=Xex h w e' fs L:=by
 unfold Xex
 refine map_congr_left λp hp=>?_
 obtain⟨⟨p0,p1⟩,p2,p3⟩:=Xhh hp
 exact Xwr L q _ _ (by omega) (by omega)
theorem Xrd:∀{as bs:List D} {i:Nat} {a b:D},D.eqbs as bs=true->as[i]?=some a->bs[i]?=some b->D.eqb a b=true
 | [],_,_,_,_,_,h,_=>by simp at h
 |_::_,[],_,_,_,_,_,h=>by simp at h
 |x::as,y::bs,0,a,b,h,h1,h2=>by
  simp only[D.eqbs,and_eq_true]at h
  rw[List.getElem?_cons_zero]at h1 h2
  cases h1
  cases h2
  exact h.1
 |x::as,y::bs,i+1,a,b,h,h1,h2=>by
  simp only[D.eqbs,and_eq_true]at h
  rw[getElem?_cons_succ]at h1 h2
  exact Xrd h.2 h1 h2
theorem Ybv {h w:Nat}{e p:Nat->Nat->Int}(q:(D.lst (shV D.int h w e)).eqb (.lst (shV D.int h w p))=true):eqS h w e p:=λi j hi hj=>by
 simp only[D.eqb]at q
 unfold shV at q
 have h1:=Xrd q (Xf2 hi) (Xf2 hi)
 simp only[D.eqb]at h1
 have h2:=Xrd h1 (Xf2 hj) (Xf2 hj)
 simpa[D.eqb] using h2
theorem Xva {h w:Nat}{f:Nat->Nat->Sp2}:(D.lst (shV spD h w f)).fit 4=true:=by
 simp[D.fit,shV,tab,spD]
theorem Xvb {h w:Nat}{e:Nat->Nat->Int}:(D.lst (shV D.int h w e)).fit 4=true:=by
 simp[D.fit,shV,tab]
theorem Ybw:∀{xs ys:List Int},xs.map dot=ys.map dot->xs=ys
 | [],[],_=>rfl
 | [],y::ys,h=>by cases h
 |x::xs,[],h=>by cases h
 |x::xs,y::ys,h=>by
  rw[map_cons,map_cons]at h
  obtain⟨h1,h2⟩:=List.cons.inj h
  rw[Ybw h2]
  unfold dot at h1
  simp only[D.tup.injEq,List.cons.injEq,D.int.injEq,and_true]at h1
  rw[h1.1]
theorem Yeg {v:Wk}(h:v.pl<0):∀ds:List Bool,Fol v ds v
 | []=>.nil
 |_::_=>.whole h
theorem Xy3 {as bs:List Bool}(h:Xbv as=Xbv bs):as=bs:=by
 have:=congrArg Xmg h
 rw[Xgh,Xgh]at this
 refine List.map_inj_right (f:=Xk7) (λa b e=>?_) |>.mp this
 cases a<;>cases b<;>first |rfl |exact absurd e (by decide)
theorem Ycj {m n c:Nat}{bs lg:List Bool}{v:Wk}(m0:0<m)(m32:m<=32)(hn:n<=221)(F:Fol (wk0 m n) bs v)(hus:v.us=bs.length)(hc:c<=bs.length)(hl:3*m*n+c<=lg.length)(hk:lg.take c=bs.take c):
  ∃(u v2:Wk) (u2:Nat) (xs:List Int),(Fol (wk0 m n) lg v2/\Fol (wk0 m n) (lg.take u2) v2/\Shp m v2/\v2.pl<0/\v2.us=u2/\c<=u2/\u2<=lg.length)/\(xs.length=m/\Xd4 xs v2/\Tell xs (wk0 m n) (lg.take u2)/\∀x∈xs,x.natAbs<2^n)/\Fol (wk0 m n) (bs.take c) u/\Shp m u/\u.us=c/\Fol u (bs.drop c) v/\Fol u (lg.drop c) v2/\Fol u ((lg.take u2).drop c) v2:=by
 obtain⟨q1,q2,q3,q4⟩:(wk0 m n).pl=(n:Int)-1/\(wk0 m n).re=[]/\(wk0 m n).us=0/\mu m (wk0 m n)<=3*m*n:=Xnb m n
 have hS0:Shp m (wk0 m n):=Xna (m:=(m:Int)) (by omega) n
 have r5:(wk0 m n).pl<=5000:=by (clear hus hc hl;omega)
 have r8:((wk0 m n).re.length:Int)+(wk0 m n).pl<800000:=by rw[q2,length_nil];(clear hus hc hl;omega)
 obtain⟨v2,u2,g1,g2,g3,g4,g5,g6,_,g8,_,g10⟩:=Xoj m0 (by (clear hus hc hl;omega)) lg (wk0 m n) hS0 r5 r8
 have hv2:v2.pl<0:=by
  by_cases y:0<=v2.pl
  .have m1:=Ykx g2 y
   have m2:=g6 y
   clear hus hc g3;omega
  .omega
 obtain⟨xs,hxs,C2⟩:=Yek g2 hv2
 obtain⟨hC0,ht⟩:=g10 xs hxs C2
 have T2:=ht [] (.done hv2)
 rw[append_nil]at T2
 have hu2:v2.us=u2:=by (clear hus hc hl g3 hxs;omega)
 clear g4 g5 g6 g8 g10 ht q4
 obtain⟨u,a1,a2,a3,_,a5,_,a7,a8⟩:=Xvf (m:=m) m0 (by omega) F hS0 r5 r8 q3 hc
 obtain⟨u',b1,b2,b3,_,b5,_,_,_⟩:=Xvf (m:=m) (c:=c) m0 (by omega) g1 hS0 r5 r8 q3 (by omega)
 obtain⟨u3,d1,_,d3,_,_,d6,_,_⟩:=Xvf (m:=m) (c:=u2) m0 (by omega) g1 hS0 r5 r8 q3 g3
 have b1':=b1
 rw[hk]at b1
 obtain rfl:u=u':=Xok a1 b1
 have hu3:u3.pl<0:=by
  rw[decide_eq_true hv2,decide_eq_true (by omega:v2.us<=(u2:Int))]at d6
  exact of_decide_eq_true d6
 have e32:u3=v2:=Xok (Yeg hu3 _) d3
 rw[e32]at d1
 have huc:u.us=c:=by omega
 have hcu:c<=u2:=by (clear hus hc hl g3 hxs;omega)
 refine⟨u,v2,u2,xs,⟨g1,d1,g2,hv2,hu2,hcu,g3⟩,⟨hxs,C2,T2,?_⟩,a1,a2,huc,a3,b3,Yel (m:=m) m0 (by omega) hcu b1' a2 (by omega) (by omega) d1⟩
 rw[<- hxs]at hC0
 exact Xy5 hC0
theorem dr (x:Int)(g:Bool)(p q:Int)(b:Nat)(hp:0<p/\p<=b)(hq:0<q/\q<=b):∃m:Nat,x%(if g=true then q else p)=m/\m<b:=by
 have key:∀k:Int,(0<k/\k<=b)->∃m:Nat,x%k=m/\m<b:=λk hk=>by
  have a:=emod_nonneg x (show k≠0 by omega)
  have c:=Int.emod_lt_of_pos x hk.1
  exact⟨(x%k).toNat,by omega⟩
 cases g
 .exact key p hp
 .exact key q hq
theorem at2 {x y:Int}{g:Bool}:atI [D.int x,.int y] (if g=true then 1 else 0)=some (.int (if g=true then y else x)):=by cases g<;>rfl
theorem le9 {a b c:Nat}(h:a<=b)(k:Nat.ble b c=true):a<=c:=le_trans h (Nat.le_of_ble_eq_true k)
theorem nb {n:Nat}(h:n<=1000000):((-18446744073709551616<(n:Int)/\(n:Int)<18446744073709551616)/\-4611686018427387904<(n:Int)/\(n:Int)<4611686018427387904)/\1*(n:Int).toNat<=1000000:=⟨⟨⟨by omega,by omega⟩,by omega,by omega⟩,by omega⟩
theorem Yia {bs rs:List Bool}{c z:Nat}(hc:c<=bs.length)(hb:bs.length<=900000)(hr:rs.length<=600)(hz:z<=30000):(min c bs.length+rs.length<=1000000/\min c bs.length+rs.length+z<=1000000)/\∀lg,bs.take c++rs++List.replicate z false=lg->lg.length<=1000000/\z+c<=lg.length/\lg.take c=bs.take c:=by
 rw[min_eq_left hc]
 have h1:c+rs.length+z<=1000000:=by omega
 have ht:(bs.take c).length=c:=by rw[length_take,min_eq_left hc]
 refine⟨⟨le_trans (le_add_right _ z) h1,h1⟩,λlg e=>?_⟩
 have hl:lg.length=c+rs.length+z:=by rw[<- e,length_append,length_append,ht,length_replicate]
 refine⟨hl▸h1,by (clear hc h1;omega),?_⟩
 rw[<- e,append_assoc,List.take_append_of_le_length (le_of_eq ht.symm),take_take,min_self]
theorem drl (x:Int)(b:Nat):0<(b:Int)+1/\∃c:Nat,x%((b:Int)+1)=c/\c<=b:=by
 have a:=emod_nonneg x (show (b:Int)+1≠0 by omega)
 have c:=Int.emod_lt_of_pos x (show 0<(b:Int)+1 by omega)
 exact⟨by omega,(x%((b:Int)+1)).toNat,by omega,by omega⟩
theorem Yks {f:Addr}{fd:FuncData}(Df:DefAt K mg "law" Xxm f fd)(B:BltV mg)(KV:KitV K)(CV_Reader:ClsV K "Reader" Xb3)(Xbu:Cal P w K mg base "_law_cell_at" 1 ["_law_script","_law_k"] (spV K 2 Xf3))(Xiv:Cal P w K mg base "_law_ladder" 2 ["_law_script","_law_kind"] (spV K 2 Xka))(Xhn:Cal P w K mg base "_law_picture" 1 ["_law_cells","_law_wide","_law_bound"] (spV K 3 Xjc))(Xrl:CalD P w K mg base "coded" 6 ["picture","ladder","levels"] (spV K 3 Xvy) [.non,.int 2])(Xlz:Cal P w K mg base "_law_bits" 1 ["_law_cells"] (spV K 1 Xnf))(Yb7:Cal P w K mg base "read" 7 ["bits","many","planes"] (spV K 3 Xy7))(Xri:CalD P w K mg base "opened" 6 ["wave","ladder","levels","down"] (spV K 4 Xrx) [.int 0])(Xfa:Cal P w K mg base "sheet_of" 4 ["head","spans"] (spV K 2 Xjm))(Xep:CalK P w K mg base "Reader" 8 ["self","head"] (spM K 2 "Reader" Xb3 Xft))(Xe6:CalM P w K mg base "Reader" "feed" 8 ["self","bits"] (spM K 2 "Reader" Xb3 Xjf))(Xe5:CalM P w K mg base "Reader" "seen" 8 ["self"] (spV K 1 Xje))(Xf1:Cal P w K mg base "_law_within" 1 ["_law_sheet","_law_spans"] (spV K 2 Xj9))(Xeo:CalM P w K mg base "Reader" "is_whole" 2 ["self"] (spV K 1 Xfs)):
  FnOk P w K mg base CX0 10 f fd ["_law_script"] (Xvz K):=by
 refine Yie Df Xc8 (λc A o s H E hr=>⟨_,_,(Xah (Xa9 (i:=1) Xc8.nd rfl (Or.inl rfl) (Xew Xln (Xaw Xdm (Xa0 Xbu (hr.mono (by decide)) (by rfl) (Xaa (pv 0) (Xaa Xaj Xad))) Xaj) Xaj (Xbo _)))
   (Xah (Xa9 (i:=2) Xc8.nd rfl (Or.inl rfl) (Xa0 Xiv (hr.mono (by decide)) (by rfl) (Xaa (pv 0) (Xaa (Xaw Xdm (Xaw Xlm (Xa0 Xbu (hr.mono (by decide)) (by rfl) (Xaa (pv 0) (Xaa Xaj Xad))) Xaj) Xaj) Xad))))
   (Xah (Xa9 (i:=3) Xc8.nd rfl (Or.inl rfl) (Xaw Xdm (Xa0 Xbu (hr.mono (by decide)) (by rfl) (Xaa (pv 0) (Xaa Xaj Xad))) (Xax Xbr (Xb8 (Xaa Xaj (Xaa Xaj Xad))) (Xdz Xk4 (by rfl) B.int PyProof.Rows.boot_int (Xaa (pv 1) Xad)) (λ_ _=>rfl))))
   (Xah (Xa9 (i:=4) Xc8.nd rfl (Or.inl rfl) (Xaw Xc5 Xaj (Xaw Xdm (Xa0 Xbu (hr.mono (by decide)) (by rfl) (Xaa (pv 0) (Xaa Xaj Xad))) (Xax Xbr (Xb8 (Xaa Xaj (Xaa Xaj Xad))) (Xdz Xk4 (by rfl) B.int PyProof.Rows.boot_int (Xaa (pv 1) Xad)) (λ_ _=>rfl)))))
   (Xah (Xa9 (i:=5) Xc8.nd rfl (Or.inl rfl) (Xaw Xc5 Xaj (Xaw Xdm (Xa0 Xbu (hr.mono (by decide)) (by rfl) (Xaa (pv 0) (Xaa Xaj Xad))) (Xax Xbr (Xb8 (Xaa Xaj (Xaa Xaj Xad))) (Xdz Xk4 (by rfl) B.int PyProof.Rows.boot_int (Xaa (pv 1) Xad)) (λ_ _=>rfl)))))
   (Xah (Xa9 (i:=6) Xc8.nd rfl (Or.inl rfl) (Xa0 Xhn (hr.mono (by decide)) (by rfl) (Xaa (Xdx Xmt (pv 0) (Xc7 Xaj) (Xc7 (Xaw Xc5 Xaj (pv 4)))) (Xaa (pv 5) (Xaa (Xax Xbr (Xb8 (Xaa Xaj (Xaa (Xaw Yfs Xaj Xaj) Xad))) (Xdz Xk4 (by rfl) B.int PyProof.Rows.boot_int (Xaa (pv 1) Xad)) (λ_ _=>rfl)) Xad)))))
   (Xah (Xnv (Xa0 Xrl.cal (hr.mono (by decide)) (by rfl) (Xaa (pv 6) (Xaa (pv 2) (Xaa (pv 3) Xad)))) (Xgl (n:=2) rfl (Xbc (Xau (i:=7) Xc8.nd rfl (Or.inl rfl)) (Xbc (Xau (i:=8) Xc8.nd rfl (Or.inl rfl)) Xeg))))
   (Xah (Xa9 (i:=4) Xc8.nd rfl (Or.inl rfl) (Xaw Xet (Xay Xa2 (by rfl) B.len boot_len (Xaa (pv 6) Xad)) (pv 5)))
   (Xah (Xa9 (i:=9) Xc8.nd rfl (Or.inl rfl) (Xaw Xdm (Xaw Xdm (Xaw Xet (Xa0 Xbu (hr.mono (by decide)) (by rfl) (Xaa (pv 0) (Xaa Xaj Xad))) Xaj) Xaj) (Xaw Xc5 (Xay Xmc (by rfl) B.len boot_len (Xaa (pv 8) Xad)) Xaj)))
   (Xah (Xa9 (i:=10) Xc8.nd rfl (Or.inl rfl) (Xaw Xlo (Xaw Xlo (Xdx Xr2 (pv 8) Xll (Xc7 (pv 9))) (Xa0 Xlz (hr.mono (by decide)) (by rfl) (Xaa (Xdx Xmt (pv 0) (Xc7 Xaj) (Xc7 Xaj)) Xad))) (Xaw Yaq Xij (Xaw Xet (Xaw Xet Xaj (pv 4)) (Xax Xas (pv 7) Xaj (λ_ _=>rfl))))))
   (Xah (Xnv (Xa0 Yb7 (hr.mono (by decide)) (by rfl) (Xaa (pv 10) (Xaa (pv 4) (Xaa (Xax Xas (pv 7) Xaj (λ_ _=>rfl)) Xad)))) (Xgl (n:=3) rfl (Xbc (Xau (i:=11) Xc8.nd rfl (Or.inl rfl)) (Xbc (Xau (i:=12) Xc8.nd rfl (Or.inl rfl)) (Xbc (Xau (i:=13) Xc8.nd rfl (Or.inl rfl)) Xeg)))))
   (Xah (Xcm (Xnt (Xdk (Xcr (pv 13))) (Xnt (Xbq Xn1 (pv 12) (pv 9) (Xbo _)) (Xkm (Xcr (Xay (Yb5 rfl) (by rfl) B.any boot_any (Xaa (Xdy rfl (Xdw (pv 11)) (show BlkScope (Xaf Xxm) _ from⟨rfl,by decide +kernel,by decide +kernel,by decide +kernel⟩) (N:=["_law_span"]) (ix:=[none]) (show Xd1 _ _ _ _ from trivial) (λ_ _ _=>(Xau (i:=0) (show List.Nodup (["_law_span"]:List Str) by decide +kernel) rfl (Or.inl rfl))) (λ_ _ _=>(Xew Xxv (Xax Xas (pv 0) Xaj (λ_ _=>rfl)) (Xax Xas (pv 0) Xaj (λ_ _=>rfl)) (Xbo _)))) Xad)))))).pt (Xal (Xa1 Xkp)) Xbg)
   (Xah (Xa9 (i:=14) Xc8.nd rfl (Or.inl rfl) (Yhq Xri (hr.mono (by decide)) (by rfl) (Xaa (Xa0 Xfa (hr.mono (by decide)) (by rfl) (Xaa (pv 7) (Xaa (Xdy rfl (Xdw (pv 11)) (show BlkScope (Xaf Xxm) _ from⟨rfl,by decide +kernel,by decide +kernel,by decide +kernel⟩) (N:=["_law_span"]) (ix:=[none]) (show Xd1 _ _ _ _ from trivial) (λ_ _ _=>(Xau (i:=0) (show List.Nodup (["_law_span"]:List Str) by decide +kernel) rfl (Or.inl rfl))) (λ_ _ _=>(Xax Xas (pv 0) Xaj (λ_ _=>rfl)))) Xad))) (Xaa (pv 2) (Xaa (pv 3) Xad)))))
   (Xah (Xa9 (i:=15) Xc8.nd rfl (Or.inl rfl) (Xuk Xep (hr.mono (by decide)) (by rfl) (Xaa (pv 7) Xad)))
   (Xah (Xbl (Xfl Xe6 (hr.mono (by decide)) (pv 15) (Xaa (Xdx Xr2 (pv 8) Xll (Xc7 (pv 9))) Xad)))
   (Xah (Xa9 (i:=16) Xc8.nd rfl (Or.inl rfl) (Xc0 Xe5 (hr.mono (by decide)) (pv 15)))
   (Xah (Xcm (Xnt (Xdk (Xcr (Xa0 Xf1 (hr.mono (by decide)) (by rfl) (Xaa (pv 6) (Xaa (pv 16) Xad))))) (Xkm (Xdk (Xcr (Xa0 Xf1 (hr.mono (by decide)) (by rfl) (Xaa (pv 14) (Xaa (pv 16) Xad))))))).pt (Xal (Xa1 Xkp)) Xbg)
   (Xah (Xnv (Xa0 Xrl.cal (hr.mono (by decide)) (by rfl) (Xaa (pv 14) (Xaa (pv 2) (Xaa (pv 3) Xad)))) (Xgl (n:=2) rfl (Xbc (Xau (i:=17) Xc8.nd rfl (Or.inl rfl)) (Xbc (Xau (i:=18) Xc8.nd rfl (Or.inl rfl)) Xeg))))
   (Xah (Xa9 (i:=19) Xc8.nd rfl (Or.inl rfl) (Xaw Xdl (Xax Xas (pv 7) Xaj (λ_ _=>rfl)) (Xax Xas (pv 17) Xaj (λ_ _=>rfl))))
   (Xah (Xcm (Xnt (Xbq (Yap hr.units) (Xdx Xzb (pv 17) Xll (Xc7 Xaj)) (Xdx Xzb (pv 7) Xll (Xc7 Xaj)) (Xbo _)) (Xnt (Xbq (Yap hr.units) (Xax Xas (pv 17) Xaj (λ_ _=>rfl)) (Xax Xas (pv 7) Xaj (λ_ _=>rfl)) (Xbo _)) (Xkm (Xbq Xn1 (pv 19) Xaj (Xbo _))))).pt (Xal (Xa1 Xkp)) Xbg)
   (Xah (Xcm (Xbq Xxv (Xaw Xlo (Xaw Yaq Xij (pv 19)) (pv 18)) (Xdx Xr2 (pv 10) Xll (Xc7 (pv 12))) (Xbo _)) (Xal (Xa1 Xkp)) Xbg)
   (Xah (Xbl (Xfl Xe6 (hr.mono (by decide)) (pv 15) (Xaa (Xdx Xr2 (pv 10) (Xc7 (pv 9)) (Xc7 (pv 12))) Xad)))
   (Xah (Xcm (Xdk (Xcr (Xc0 Xeo (hr.mono (by decide)) (pv 15)))) (Xal (Xa1 Xkp)) Xbg)
   (Xah (Xcm (Xbq (Yap hr.units) (Xc0 Xe5 (hr.mono (by decide)) (pv 15)) (Xdy rfl (Xdw (pv 14)) (show BlkScope (Xaf Xxm) _ from⟨rfl,by decide +kernel,by decide +kernel,by decide +kernel⟩) (N:=["_law_row"]) (ix:=[none]) (show Xd1 _ _ _ _ from trivial) (λ_ _ _=>(Xau (i:=0) (show List.Nodup (["_law_row"]:List Str) by decide +kernel) rfl (Or.inl rfl))) (λ_ _ _=>(Xdy rfl (Xdw (pv 0)) (BlkScope.nofree (by rfl) (by decide +kernel) (by decide +kernel) (by decide +kernel)) (N:=["_law_x"]) (ix:=[none]) (show Xd1 _ _ _ _ from trivial) (λ_ _ _=>(Xau (i:=0) (show List.Nodup (["_law_x"]:List Str) by decide +kernel) rfl (Or.inl rfl))) (λ_ _ _=>(Xbd (Xaa (pv 0) (Xaa (pv 0) Xad))))))) (Xbo _)) (Xal (Xa1 Xkp)) Xbg)
   (Xal (Xa1 (Xew Xln (Xew (Yko hr.units) (pv 14) (pv 6) (Xbo _)) (Xew Xln (Xdx Xr2 (pv 10) Xll (Xc7 (pv 12))) (pv 8) (Xbo _)) (Xbo _)))))))))))))))))))))))))))),
  (Xam (Xa8 (Xbk (Xaq Xlq (Xap (Xaq Xdd (Xap (Xb4 (Xat (Xab Xag (Xab Xae Xak))))) (Xap Xae))) (Xap Xae))))
   (Xam (Xa8 (Xbk (Xb4 (Xat (Xab Xag (Xab (Xaq Xdd (Xap (Xaq Xdd (Xap (Xb4 (Xat (Xab Xag (Xab Xae Xak))))) (Xap Xae))) (Xap Xae)) Xak))))))
   (Xam (Xa8 (Xbk (Xaq Xdd (Xap (Xb4 (Xat (Xab Xag (Xab Xae Xak))))) (Xbe (OpF.b Xch) (Xap (Xb4 (Xc4 (Xby (Xbk Xae) (Xby (Xbk Xae) Xb7))))) (Xap (Xb0 Xw4 (Xai Xac Xan)))))))
   (Xam (Xa8 (Xbk (Xaq Xb5 (Xap Xae) (Xap (Xaq Xdd (Xap (Xb4 (Xat (Xab Xag (Xab Xae Xak))))) (Xbe (OpF.b Xch) (Xap (Xb4 (Xc4 (Xby (Xbk Xae) (Xby (Xbk Xae) Xb7))))) (Xap (Xb0 Xw4 (Xai Xac Xan)))))))))
   (Xam (Xa8 (Xbk (Xaq Xb5 (Xap Xae) (Xap (Xaq Xdd (Xap (Xb4 (Xat (Xab Xag (Xab Xae Xak))))) (Xbe (OpF.b Xch) (Xap (Xb4 (Xc4 (Xby (Xbk Xae) (Xby (Xbk Xae) Xb7))))) (Xap (Xb0 Xw4 (Xai Xac Xan)))))))))
   (Xam (Xa8 (Xbk (Xb4 (Xat (Xab (Xb4 (Xv2 Xag (Xi9 (Xap Xae)) (Xi9 (Xap (Xaq Xb5 (Xap Xae) Xac))))) (Xab Xag (Xab (Xbj Xch (Xb4 (Xc4 (Xby (Xbk Xae) (Xby (Xbk (Xaq Xdd (Xap Xae) (Xap Xae))) Xb7)))) (Xb0 Xw4 (Xai Xac Xan))) Xak)))))))
   (Xam (Xzr (Xb4 (Xat (Xab Xag (Xab Xag (Xab Xag Xak))))) (Xgk (Xbb Xav (Xbb Xav Xee))))
   (Xam (Xa8 (Xbk (Xaq Xdd (Xap (Xb0 Xcx (Xai Xac Xan))) Xac)))
   (Xam (Xa8 (Xbk (Xaq Xdd (Xap (Xaq Xdd (Xap (Xaq Xdd (Xap (Xb4 (Xat (Xab Xag (Xab Xae Xak))))) (Xap Xae))) (Xap Xae))) (Xap (Xaq Xb5 (Xap (Xb0 Yca (Xai Xac Xan))) (Xap Xae))))))
   (Xam (Xa8 (Xbk (Xaq Xq3 (Xap (Xaq Xq3 (Xap (Xsg Xag Xxo (Xi9 Xac))) (Xap (Xb4 (Xat (Xab (Xb4 (Xv2 Xag (Xi9 (Xap Xae)) (Xi9 (Xap Xae)))) Xak)))))) (Xap (Xaq Ya4 (Xap Xif) (Xap (Xaq Xdd (Xap (Xaq Xdd (Xap Xae) Xac)) (Xbe (OpF.b Xar) Xac (Xap Xae)))))))))
   (Xam (Xzr (Xb4 (Xat (Xab Xag (Xab Xag (Xab (Xbj Xar Xag Xae) Xak))))) (Xgk (Xbb Xav (Xbb Xav (Xbb Xav Xee)))))
   (Xam (Xcl (Xnp (Xdj (Xmk Xag)) (Xnp (Xbp (Xaq Xf9 Xac Xac)) (Xmk (Xb0 Yl7 (Xai (Xap (Xb4 (Xc6 (Xed Xag) Xav (Xbk (Xaq Xx2 (Xbe (OpF.b Xar) Xac (Xap Xae)) (Xbe (OpF.b Xar) Xac (Xap Xae))))))) Xan))))) (Xa4 (Xbk Xkk)) Xbf)
   (Xam (Xa8 (Xbk (Xb4 (Yc8 (dds:=[.int 0]) (λ_=>⟨_,_,rfl,rfl,rfl⟩) (Xab (Xb4 (Xat (Xab Xag (Xab (Xb4 (Xc6 (Xed Xag) Xav (Xbk (Xbj Xar Xag Xae)))) Xak)))) (Xab Xag (Xab Xag Xak)))))))
   (Xam (Xa8 (Xue CV_Reader (Xab Xag Xak)))
   (Xam (Xfi CV_Reader (by decide +kernel) (Xab (Xsg Xag Xxo (Xi9 Xac)) Xak))
   (Xam (Xa8 (Xbk (Xb4 (Xdt CV_Reader (by decide +kernel) Xac Xan))))
   (Xam (Xcl (Xnp (Xdj (Xmk (Xb4 (Xat (Xab Xag (Xab Xag Xak)))))) (Xdj (Xmk (Xb4 (Xat (Xab Xag (Xab Xag Xak))))))) (Xa4 (Xbk Xkk)) Xbf)
   (Xam (Xzr (Xb4 (Xat (Xab Xag (Xab Xag (Xab Xag Xak))))) (Xgk (Xbb Xav (Xbb Xav Xee))))
   (Xam (Xa8 (Xbk (Xaq Xb5 (Xbe (OpF.b Xar) Xac (Xap Xae)) (Xbe (OpF.b Xar) Xac (Xap Xae)))))
   (Xam (Xcl (Xnp (Xbp (Xaq Ya3 (Xap (Yff Xag Xxo (Xi9 (Xap Xae)))) (Xap (Yff Xag Xxo (Xi9 (Xap Xae)))))) (Xnp (Xbp (Xaq Ya3 (Xbe (OpF.b Xar) Xac (Xap Xae)) (Xbe (OpF.b Xar) Xac (Xap Xae)))) (Xbp (Xaq Xf9 Xac (Xap Xae))))) (Xa4 (Xbk Xkk)) Xbf)
   (Xam (Xcl (Xbp (Xaq Xx2 (Xap (Xaq Xq3 (Xap (Xaq Ya4 (Xap Xif) Xac)) Xac)) (Xap (Xsg Xag Xxo (Xi9 Xac))))) (Xa4 (Xbk Xkk)) Xbf)
   (Xam (Xfi CV_Reader (by decide +kernel) (Xab (Xsg Xag (Xi9 Xac) (Xi9 Xac)) Xak))
   (Xam (Xcl (Xdj (Xmk (Xb4 (Xdt CV_Reader (by decide +kernel) Xac Xan)))) (Xa4 (Xbk Xkk)) Xbf)
   (Xam (Xcl (Xbp (Xaq Ya3 (Xap (Xb4 (Xdt CV_Reader (by decide +kernel) Xac Xan))) (Xap (Xb4 (Xc6 (Xed Xag) Xav (Xc6 (Xed Xag) Xav (Xbk (Xbx (Xab Xag (Xab Xag Xak)))))))))) (Xa4 (Xbk Xkk)) Xbf)
   (Xa4 (Xbk (Xaq Xlq (Xap (Xaq Yku Xac Xac)) (Xap (Xaq Xlq (Xap (Xsg Xag Xxo (Xi9 Xac))) Xac))))))))))))))))))))))))))))),?_⟩)
 intro ns hns hb
 gn_on
 refine⟨ns,0,rfl,by decide,?_⟩
 fin2
 generalize ns.getD 0 0=c0
 gp_on
 generalize decide (c0%4=1)=gr
 gn_on
 refine⟨ns,0,rfl,by decide,?_⟩
 fin2
 refine⟨ns,_,rfl,⟨by omega,by omega⟩,λfs ok hf6=>?_⟩
 fin2
 gp_on
 gn_on
 refine⟨ns,1,rfl,by decide,?_⟩
 fin2
 refine⟨_,at2,by cases gr<;>decide,?_⟩
 obtain⟨L,eL,hL⟩:=dr (ns.getD 1 0) gr 3 2 3 (by decide) (by decide)
 rw[eL]
 clear eL
 gp_on
 gn_on
 refine⟨ns,2,rfl,by decide,?_⟩
 fin2
 refine⟨_,at2,by cases gr<;>decide,?_⟩
 obtain⟨m,em,hm8⟩:=dr (ns.getD 2 0) gr 8 2 8 (by decide) (by decide)
 rw[em,show (1:Int)+(m:Int)=((m+1:Nat):Int) from Int.add_comm _ _]
 clear em
 gp_on
 gn_on
 refine⟨ns,3,rfl,by decide,?_⟩
 fin2
 refine⟨_,at2,by cases gr<;>decide,?_⟩
 obtain⟨w0,ew,hw4⟩:=dr (ns.getD 3 0) gr 4 2 4 (by decide) (by decide)
 rw[ew,show (1:Int)+(w0:Int)=((w0+1:Nat):Int) from Int.add_comm _ _]
 clear ew
 generalize ew:w0+1=w'
 have hw:1<=w'/\w'<=4:=by omega
 obtain⟨hw1,hw4⟩:=hw
 clear ew
 gp_on
 gn_on
 obtain⟨ys,ey,hyl,hym⟩:=Xve ns 7 (m+1)
 rw[show (7:Int)=((7:Nat):Int) from rfl,show ((7:Nat):Int)+((m+1:Nat):Int)=((7+(m+1):Nat):Int) from rfl,ey]
 have evy:List.map OV.val (List.map OV.fz (ys.map D.int))=ys.map D.int:=by rw[map_map];exact map_id'' (λ_=>rfl) _
 rw[evy]
 refine⟨_,at2,ys,w',_,100,rfl,le_trans hyl hm8,λx hx=>hb x (hym x hx),hw1,hw4,⟨by cases gr<;>decide,by cases gr<;>decide,by decide⟩,λh e h1 h8 he=>?_⟩
 clear evy ey hyl hym ys
 fin2
 rw[Xdf]
 gp_on
 have hwl:h*w'<=32:=mul_le_mul h8 hw4
 have hhw0:0<h*w':=mul_pos h1 hw1
 have L6:L<=6:=le9 (Nat.le_of_lt hL) rfl
 have hh:h<=64:=le9 h8 rfl
 have ww:w'<=64:=le9 hw4 rfl
 have h3:h<=1000:=le9 h8 rfl
 have w3:w'<=1000:=le9 hw4 rfl
 have h221:100+10*fs.length*L+1<=221:=Nat.add_le_add_right (Nat.add_le_add_left (mul_le_mul (mul_le_mul_left 10 hf6) (Nat.le_of_lt_succ hL)) 100) 1
 have hbits:=le9 (c:=900000) (mul_le_mul (mul_le_mul_left 3 hwl) h221) rfl
 gn_on
 refine⟨h,w',e,fs,L,100+10*fs.length*L+1,rfl,hf6,ok,L6,h1,hh,hw1,ww,le9 h221 rfl,Yh4 ok (by decide) he L,hbits,λn bs v x1 x2 hn x4 F hv S C hus hbl=>?_⟩
 clear x1 hbits
 have hn2:=le_trans hn h221
 have hb6:bs.length<=1000000:=le9 hbl rfl
 fin2
 gp_on
 have hxl:=Xq4 (h:=h) (w:=w') (L:=L) (e:=e) (fs:=fs)
 rw[hxl]at F S x4
 clear hxl h221 hn hm8
 gn_on
 rw[show (shV D.int h w' e).length=h from Xa7,<- natCast_mul]
 refine⟨.inr (nb (le9 w3 rfl)).1.1,?_⟩
 gp_on
 gn_on
 refine⟨ns,4,rfl,by decide,?_⟩
 fin2
 rw[Xbh]
 obtain⟨f0,c,ec,hc⟩:=drl (ns.getD 4 0*48271%2147483647) bs.length
 rw[ec]
 refine⟨hb6,f0,?_⟩
 clear f0 ec
 gp_on
 gn_on
 obtain⟨ys,ey,hyl,hym⟩:=Xve ns 7 56
 rw[show Xyk (List.map D.int ns) (some 7) (some 63)=ys.map D.int from ey]
 have evy:List.map OV.val (List.map OV.fz (ys.map D.int))=ys.map D.int:=by rw[map_map];exact map_id'' (λ_=>rfl) _
 rw[evy,Xbh]
 refine⟨hb6,ys,rfl,le9 hyl rfl,λx hx=>hb x (hym x hx),λrs hrs=>?_⟩
 clear evy ey hyl hym ys hb hns
 fin2
 rw[Xmr bs hc]
 obtain⟨z,ez⟩:∃z:Nat,z=3*(h*w')*n:=⟨_,rfl⟩
 have hz:z<=30000:=by
  rw[ez]
  exact le9 (mul_le_mul (mul_le_mul_left 3 hwl) hn2) rfl
 obtain⟨⟨l1,l2⟩,l3⟩:=Yia hc hbl hrs hz
 have nz:=nb (le9 hz rfl)
 rw[show (3:Int)*((h*w':Nat):Int)*(n:Int)=(z:Int) by rw[ez];simp only[natCast_mul];rfl]
 rw[show Yfi (Str.ofString "0") (z:Int)=Xbv (List.replicate z false) from Xz7 false z,<- Xes,<- Xes,Xbh,Xbh,Xbh,Xbh]
 refine⟨by rw[length_take];exact l1,.inr (nb (le9 hn2 rfl)).1.1,nz.1.2.1,nz.1.2.2,nz.2,by rw[length_append,length_take,length_replicate];exact l2,?_⟩
 gp_on
 generalize elg:bs.take c++rs++List.replicate z false=lg
 obtain⟨hl9,hzc,htk⟩:=l3 _ elg
 have h9n:3*(h*w')*n<=900000:=ez▸le9 hz rfl
 rw[ez]at hzc
 have F':Fol (wk0 (h*w') n) bs v:=F
 obtain⟨u,v2,u2,xs,⟨g1,d1,g2,hv2,hu2,hcu,g3⟩,⟨hxs,C2,T2,hlow⟩,a1,a2,huc,a3,b3,mid⟩:=Ycj hhw0 hwl hn2 F' hus hc hzc htk
 have hd:Ymn h w' L n fs:=⟨⟨h1,hh⟩,⟨hw1,ww⟩,L6,le9 hn2 rfl,hf6,ok⟩
 have hc9:=le_trans hc hb6
 clear elg htk ez hz hrs l1 l2 l3 nz hzc hus hbl
 have hsp:=Xnc hxs g2 C2 hv2
 have tv2:=Xr3 g2 (le9 hwl rfl)
 have hx6:xs.length<=1000000:=by rw[hxs];exact le9 hwl rfl
 gn_on
 refine⟨_,_,n,v2,rfl,le9 hn2 rfl,g1,tv2.1,tv2.2.1,by rw[hsp,length_map,hxs];exact le9 hwl rfl,tv2.2.2.2,?_⟩
 rw[hsp]
 fin2
 rw[decide_eq_true hv2]
 gp_on
 gn_on
 rw[if_neg (by rw[hu2];exact Int.not_lt.mpr (Int.ofNat_le.mpr hcu))]
 refine Xme.map xs (λx=>dot x) (λ_=>.fz (.bl false)) hx6 (λx _ Q qq=>?_) ?_
 .unfold dot
  fin2
  exact qq
 fin2
 refine⟨xs.map λ_=>false,by rw[map_map,map_map];rfl,?_⟩
 rw[if_neg (by simp)]
 gp_on
 gn_on
 refine Xme.map xs (λx=>dot x) (λx=>.fz (.int x)) hx6 (λx _ Q qq=>?_) ?_
 .unfold dot
  fin2
  exact qq
 have evx:OV.val (.nl (xs.map λx=>OV.fz (.int x))) = .lst (xs.map D.int):=by
  rw[OV.val,OV.vals_eq,map_map]
  rfl
 rw[evx]
 refine⟨Int,D.int,0,h,w',L,n,fs,xs,rfl,⟨le9 h8 rfl,le9 hw4 rfl,le9 L6 rfl⟩,hxs,?_⟩
 fin2
 rw[Xdf]
 refine⟨h,w',_,fs,L,0,rfl,ok,L6,zero_le _,h1,h3,w3,?_⟩
 fin2
 rw[Xdf]
 gp_on
 gn_on
 refine⟨h,w',L,n,fs,rfl,rfl,hd,?_⟩
 gp_on
 gn_on
 rw[Xmr bs hc]
 have hval:∀u:Wk,OV.val (.nl (shT spD h w' (Xmh h w' L fs u))) = .lst (shV spD h w' (Xmh h w' L fs u)):=λu=>by
  show D.lst (OV.vals _)=_
  rw[OV.vals_eq,Xdf]
 have htl:(bs.take c).length=c:=by rw[length_take,min_eq_left hc]
 refine⟨by rw[Xbh];exact hb6,hdD h w' L n fs,[],wk0 (h*w') n,u,bs.take c,rfl,rfl,by rw[htl,length_nil,Nat.zero_add];exact hc9,a1,by rw[htl,length_nil];exact huc.trans (zero_add _).symm,?_⟩
 have hfd:([]++Xmg (Xbv (bs.take c))).length=c:=by rw[nil_append,Xgh,length_map,htl]
 generalize []++Xmg (Xbv (bs.take c))=fd at hfd
 gp_on
 gn_on
 refine⟨h,w',L,n,fs,fd,u,by rw[OV.vals_eq],hd,a2,Ybc,?_⟩
 rw[hval]
 gp_on
 gn_on
 refine⟨h,w',e,Xmh h w' L fs u,rfl,h3,w3,λi j hi hj=>?_,?_⟩
 .have q:=Xze (L:=L) ok hhw0 rfl a3 a2 S hi hj
  rw[Xxg ok S C hv hi hj]at q
  exact⟨q.1,q.2.2⟩
 show if (!true)=true then _ else _
 rw[if_neg (by decide)]
 refine⟨h,w',Ydu h w' L fs xs,Xmh h w' L fs u,rfl,h3,w3,λi j hi hj=>?_,?_⟩
 .have q:=Xze (L:=L) ok hhw0 rfl b3 a2 g2 hi hj
  rw[Xqe ok hxs g2 C2 hv2 hi hj]at q
  exact⟨q.1,q.2.2⟩
 show if (!true)=true then _ else _
 rw[if_neg (by decide)]
 gp_on
 gn_on
 have eon:Xex h w' (Ydu h w' L fs xs) fs L=xs:=Yd3 ok hxs
 have hib:∀x∈xs,ibN x<=n:=λx hx=>Nat.le_of_not_lt λz=>absurd (hlow x hx) (Nat.not_lt.mpr (Xyd.mpr z))
 refine⟨h,w',Ydu h w' L fs xs,fs,L,n,rfl,hf6,ok,L6,h1,hh,hw1,ww,le9 hn2 rfl,by rw[eon];exact hib,h9n,λn' cs' v' y1 y2 hn' y4 y5 y6 y7 y8 y9 y10=>?_⟩
 clear y1 y5 y6 y7 y8 y9
 rw[eon]at y2 y4
 clear htl evx hc9
 have hlow':∀x∈xs,x.natAbs<2^n':=λx hx=>Nat.lt_of_not_le λz=>Nat.not_lt.mpr (y2 x hx) (Xyd.mp z)
 have T3:Tell xs (wk0 xs.length (n'+(n-n'))) (lg.take u2):=by
  rw[hxs,Nat.add_sub_cancel' hn']
  exact T2
 have ezs:=Xpf (by rw[hxs];exact hhw0) (n-n') n' hlow' (by rw[Nat.add_sub_cancel' hn'];exact le9 hn2 rfl) T3 y4
 have h22:n-n'<=221:=le_trans (Nat.sub_le n n') hn2
 have n9:=nb (le9 h22 rfl)
 fin2
 gp_on
 gn_on
 gp_on
 gn_on
 have hcut:∀m:Int,Xyk [D.int h,D.int w',D.int L,D.int m,Xge fs] none (some 3)=[D.int h,D.int w',D.int L]:=λm=>rfl
 have hlf:(Xge fs).fit 4=true:=by simp[Xge,lfD,D.fit]
 have h3f:(D.tup [D.int h,D.int w',D.int L]).fit 4=true:=by simp[D.fit]
 rw[hcut,hcut]
 refine⟨h3f,h3f,?_⟩
 rw[D.eqb_refl h3f,if_neg (by decide)]
 refine⟨rfl,hlf,hlf,?_⟩
 rw[D.eqb_refl hlf,if_neg (by decide),if_neg (Int.not_lt.mpr (Int.sub_nonneg_of_le (Int.ofNat_le.mpr hn')))]
 gp_on
 gn_on
 rw[<- Int.ofNat_sub hn',hu2]
 rw[show Yfi (Str.ofString "0") ((n-n':Nat):Int)=Xbv (List.replicate (n-n') false) from Xz7 false (n-n'),Xmr _ g3,<- Xes,<- ezs,Xbh,Xbh,Xbh]
 refine⟨n9.1.2.1,n9.1.2.2,n9.2,by rw[length_replicate];exact le9 (Nat.add_le_add h22 y10) rfl,hl9,?_⟩
 rw[if_neg (by simp)]
 gp_on
 gn_on
 have hml:((lg.take u2).drop c).length=u2-c:=by rw[length_drop,length_take,min_eq_left g3]
 rw[Ygq _ hcu g3,Xbh]
 refine⟨hl9,hdD h w' L n fs,fd,u,v2,_,rfl,rfl,by rw[hml,hfd,Nat.add_sub_cancel' hcu];exact le_trans g3 hl9,mid,by rw[hml,hfd,hu2,<- Int.natCast_add,Nat.add_sub_cancel' hcu],?_⟩
 generalize fd++Xmg (Xbv ((lg.take u2).drop c))=fd'
 gp_on
 gn_on
 refine⟨hdD h w' L n fs,fd',v2,by rw[OV.vals_eq],?_⟩
 rw[decide_eq_true hv2]
 fin2
 gp_on
 gn_on
 refine⟨h,w',L,n,fs,fd',v2,by rw[OV.vals_eq],hd,g2,Ybc,?_⟩
 rw[hval]
 rw[show (Xdq 0 (λk=>Xcw fs ((2^k:Nat):Int)) h w' L 0 λi j=>xs.getD (Xhw h w' L i j) 0)=Ydu h w' L fs xs from rfl]
 generalize hoth:Ydu h w' L fs xs=oth at eon
 refine Xme.map (List.range h) (λi=>D.lst (tab w' λj=>.int (oth i j))) (λi=>.nl (tab w' λj=>.fz (spD (oth i j,oth i j)))) (by rw[length_range];exact le9 h8 rfl) (λi _ Q q=>?_) ?_
 .fin2
  refine Xme.map (List.range w') (λj=>D.int (oth i j)) (λj=>.fz (spD (oth i j,oth i j))) (by rw[length_range];exact le9 hw4 rfl) (λj _ Q q=>?_) q
  fin2
  exact q
 have er:OV.val (.nl ((List.range h).map λi=>.nl (tab w' λj=>.fz (spD (oth i j,oth i j))))) = .lst (shV spD h w' λi j=>(oth i j,oth i j)):=by
  show D.lst (OV.vals _)=_
  rw[OV.vals_eq]
  exact congrArg _ (Xdf (g:=spD) (h:=h) (w:=w') (e:=λi j=>(oth i j,oth i j)))
 have es:shV spD h w' (Xmh h w' L fs v2)=shV spD h w' λi j=>(oth i j,oth i j):=by
  have hsv:∀i j,i<h->j<w'->Xmh h w' L fs v2 i j=(oth i j,oth i j):=λi j hi hj=>by
   rw[<- hoth]
   exact Xqe ok hxs g2 C2 hv2 hi hj
  rw[<- Xdf,<- Xdf,Xng (λi j hi hj=>hsv i j hi hj)]
 rw[er,es]
 refine⟨rfl,Xva,Xva,?_⟩
 show if (!(D.lst (shV spD h w' λi j=>(oth i j,oth i j))).eqb (D.lst (shV spD h w' λi j=>(oth i j,oth i j))))=true then _ else _
 rw[D.eqb_refl Xva,if_neg (by decide)]
 gp_on
 fin2
 refine⟨Xvb,Xvb,by rw[Xbh];exact hl9,?_⟩
 rw[Xmr _ g3]
 refine congrArg (λb=>OV.fz (D.bl b)) (decide_eq_true ?_)
 show (D.lst (shV D.int h w' oth)).eqb (D.lst (shV D.int h w' e))=decide (Xbv (lg.take u2)=Xbv bs)
 by_cases hq:xs=Xex h w' e fs L
 .have q1:eqS h w' oth e:=by
   rw[<- hoth,hq]
   exact Xwk ok
  have q2:shV D.int h w' oth=shV D.int h w' e:=by rw[<- Xdf,<- Xdf,Xng (λi j hi hj=>q1 i j hi hj)]
  have q3:lg.take u2=bs:=by
   rw[hq]at T2
   exact Xvp T2 x4
  rw[q2,D.eqb_refl Xvb,q3,decide_eq_true rfl]
 .have q1:(D.lst (shV D.int h w' oth)).eqb (D.lst (shV D.int h w' e))=false:=Bool.eq_false_iff.mpr λq=>hq (by rw[<- eon];exact Yd4 (Ybv q))
  have q2:¬ Xbv (lg.take u2)=Xbv bs:=λq=>hq (by
   rw[Xy3 q]at d1
   have q4:=Xnc Xq4 S C hv
   rw[Xok F' d1,hsp]at q4
   exact Ybw q4)
  rw[q1,decide_eq_false q2]
end
theorem Ypp {w:World}{K:Frag}{h:Heap}{mg:Str->Option Value}(X:K.In h)(G:h.Ns mainGlobals mg)
  {aj:Addr}
  {ak:Addr}
  {ag:Addr}
  {af:Addr}
  {ai:Addr}
  {ax:Addr} {dt:Option Addr} {dv:Array (Option Value)} {dw:Nat}  (dy:nsIn K mainGlobals "PART_SPANS"=some (some (.ref ax))) (du:K.lookup ax=some ⟨.type "tuple",dt,.seq #[.ref aj,.ref ak,.ref ag,.ref af,.ref ai] dw,dv⟩)
  {cq:Option Addr} {cx:Array (Option Value)} {dg:Nat} {bo:Tok} {bx:Tok} (cu:K.lookup aj=some ⟨.type "tuple",cq,.seq #[.int 0 bo,.int 1 bx] dg,cx⟩)
  {di:Option Addr} {cm:Array (Option Value)} {da:Nat} {bv:Tok} {bn:Tok} (db:K.lookup ak=some ⟨.type "tuple",di,.seq #[.int (-8) bv,.int 8 bn] da,cm⟩)
  {cj:Option Addr} {de:Array (Option Value)} {c9:Nat} {cg:Tok} {bj:Tok} (c8:K.lookup ag=some ⟨.type "tuple",cj,.seq #[.int (-8) cg,.int 8 bj] c9,de⟩)
  {dk:Option Addr} {cr:Array (Option Value)} {cp:Nat} {bc:Tok} {ce:Tok} (dh:K.lookup af=some ⟨.type "tuple",dk,.seq #[.int (-64) bc,.int 64 ce] cp,cr⟩)
  {cn:Option Addr} {cy:Array (Option Value)} {cv:Nat} {bm:Tok} {bd:Tok} (cz:K.lookup ai=some ⟨.type "tuple",cn,.seq #[.int 0 bm,.int 8 bd] cv,cy⟩)
  {dz:Addr} {d9:Option Addr} {d7:Array (Option Value)} {ed:Nat} {d5:Tok} {d4:Tok} (eh:nsIn K mainGlobals "SIZES"=some (some (.ref dz))) (d8:K.lookup dz=some ⟨.type "tuple",d9,.seq #[.int 1 d5,.int 64 d4] ed,d7⟩)
  {aa:Addr}
  {ab:Addr}
  {ad:Addr}
  {ac:Addr}
  {al:Addr} {dm:Option Addr} {ck:Array (Option Value)} {df:Nat}  (dq:nsIn K mainGlobals "NUMBER_SPANS"=some (some (.ref al))) (cw:K.lookup al=some ⟨.type "tuple",dm,.seq #[.ref aa,.ref ab,.ref ad,.ref ac] df,ck⟩)
  {bb:Option Addr} {bh:Array (Option Value)} {ay:Nat} {am:Tok} {au:Tok} (br:K.lookup aa=some ⟨.type "tuple",bb,.seq #[.int 1 am,.int 64 au] ay,bh⟩)
  {ci:Option Addr} {cc:Array (Option Value)} {bf:Nat} {av:Tok} {ao:Tok} (cf:K.lookup ab=some ⟨.type "tuple",ci,.seq #[.int 1 av,.int 64 ao] bf,cc⟩)
  {bi:Option Addr} {ca:Array (Option Value)} {bu:Nat} {ap:Tok} {aw:Tok} (bt:K.lookup ad=some ⟨.type "tuple",bi,.seq #[.int 0 ap,.int 6 aw] bu,ca⟩)
  {ba:Option Addr} {bp:Array (Option Value)} {bg:Nat} {ar:Tok} {aq:Tok} (az:K.lookup ac=some ⟨.type "tuple",ba,.seq #[.int 0 ar,.int 4000 aq] bg,bp⟩):
  Ygg K mg "PART_SPANS" (D.tup [.tup [.int 0,.int 1],.tup [.int (-8),.int 8],.tup [.int (-8),.int 8],.tup [.int (-64),.int 64],.tup [.int 0,.int 8]])/\Ygg K mg "SIZES" (D.tup [.int 1,.int 64])/\Ygg K mg "NUMBER_SPANS" (D.tup [.tup [.int 1,.int 64],.tup [.int 1,.int 64],.tup [.int 0,.int 6],.tup [.int 0,.int 4000]]):=
 ⟨⟨_,mg_of X G dy,λF=>⟨_,[.ref aj,.ref ak,.ref ag,.ref af,.ref ai],rfl,.inr ⟨_,_,_,du,rfl,rfl,Xdp (show 5<=1000000 by decide),.cons rfl (.cons rfl (.cons rfl (.cons rfl (.cons rfl (.nil)))))⟩,⟨_,_,rfl,⟨_,[.int 0,.int 1],rfl,.inr ⟨_,_,_,cu,rfl,rfl,Xdp (show 2<=1000000 by decide),.cons ⟨_,rfl⟩ (.cons ⟨_,rfl⟩ (.nil))⟩,⟨_,_,rfl,rfl,⟨_,_,rfl,rfl,rfl⟩⟩⟩,⟨_,_,rfl,⟨_,[.int (-8),.int 8],rfl,.inr ⟨_,_,_,db,rfl,rfl,Xdp (show 2<=1000000 by decide),.cons ⟨_,rfl⟩ (.cons ⟨_,rfl⟩ (.nil))⟩,⟨_,_,rfl,rfl,⟨_,_,rfl,rfl,rfl⟩⟩⟩,⟨_,_,rfl,⟨_,[.int (-8),.int 8],rfl,.inr ⟨_,_,_,c8,rfl,rfl,Xdp (show 2<=1000000 by decide),.cons ⟨_,rfl⟩ (.cons ⟨_,rfl⟩ (.nil))⟩,⟨_,_,rfl,rfl,⟨_,_,rfl,rfl,rfl⟩⟩⟩,⟨_,_,rfl,⟨_,[.int (-64),.int 64],rfl,.inr ⟨_,_,_,dh,rfl,rfl,Xdp (show 2<=1000000 by decide),.cons ⟨_,rfl⟩ (.cons ⟨_,rfl⟩ (.nil))⟩,⟨_,_,rfl,rfl,⟨_,_,rfl,rfl,rfl⟩⟩⟩,⟨_,_,rfl,⟨_,[.int 0,.int 8],rfl,.inr ⟨_,_,_,cz,rfl,rfl,Xdp (show 2<=1000000 by decide),.cons ⟨_,rfl⟩ (.cons ⟨_,rfl⟩ (.nil))⟩,⟨_,_,rfl,rfl,⟨_,_,rfl,rfl,rfl⟩⟩⟩,rfl⟩⟩⟩⟩⟩⟩⟩,⟨_,mg_of X G eh,λF=>⟨_,[.int 1,.int 64],rfl,.inr ⟨_,_,_,d8,rfl,rfl,Xdp (show 2<=1000000 by decide),.cons ⟨_,rfl⟩ (.cons ⟨_,rfl⟩ (.nil))⟩,⟨_,_,rfl,rfl,⟨_,_,rfl,rfl,rfl⟩⟩⟩⟩,⟨_,mg_of X G dq,λF=>⟨_,[.ref aa,.ref ab,.ref ad,.ref ac],rfl,.inr ⟨_,_,_,cw,rfl,rfl,Xdp (show 4<=1000000 by decide),.cons rfl (.cons rfl (.cons rfl (.cons rfl (.nil))))⟩,⟨_,_,rfl,⟨_,[.int 1,.int 64],rfl,.inr ⟨_,_,_,br,rfl,rfl,Xdp (show 2<=1000000 by decide),.cons ⟨_,rfl⟩ (.cons ⟨_,rfl⟩ (.nil))⟩,⟨_,_,rfl,rfl,⟨_,_,rfl,rfl,rfl⟩⟩⟩,⟨_,_,rfl,⟨_,[.int 1,.int 64],rfl,.inr ⟨_,_,_,cf,rfl,rfl,Xdp (show 2<=1000000 by decide),.cons ⟨_,rfl⟩ (.cons ⟨_,rfl⟩ (.nil))⟩,⟨_,_,rfl,rfl,⟨_,_,rfl,rfl,rfl⟩⟩⟩,⟨_,_,rfl,⟨_,[.int 0,.int 6],rfl,.inr ⟨_,_,_,bt,rfl,rfl,Xdp (show 2<=1000000 by decide),.cons ⟨_,rfl⟩ (.cons ⟨_,rfl⟩ (.nil))⟩,⟨_,_,rfl,rfl,⟨_,_,rfl,rfl,rfl⟩⟩⟩,⟨_,_,rfl,⟨_,[.int 0,.int 4000],rfl,.inr ⟨_,_,_,az,rfl,rfl,Xdp (show 2<=1000000 by decide),.cons ⟨_,rfl⟩ (.cons ⟨_,rfl⟩ (.nil))⟩,⟨_,_,rfl,rfl,⟨_,_,rfl,rfl,rfl⟩⟩⟩,rfl⟩⟩⟩⟩⟩⟩⟩
end Lw
namespace PySem.W.Fast
def tw10773636462198833794:=Nat
def tw2997257775851288926:=Nat
def tw16406452208267538582:=Nat
def tw3963662979516199722:=Nat
def tw16569405854848856935:=Nat
def tw17479053327362874389:=Nat
def tw13488450482505399459:=Nat
def tw8302742257638594173:=Nat
def tw17727518295729416031:=Nat
def tw16609789801049841277:=Nat
def tw4092746025233226887:=Nat
def tw11441193674459850489:=Nat
def tw5544023674317063725:=Nat
def tw6746195419827850381:=Nat
def tw8918073097517111907:=Nat
def tw5777804370888072255:=Nat
def tw9318262796144870908:=Nat
def tw2591500674724645531:=Nat
def tw16285326397992849211:=Nat
def tw17396150468445757666:=Nat
def tw9622494632195147402:=Nat
def tw6725266523787815613:=Nat
def tw11043015310719296533:=Nat
def tw2899944218549168989:=Nat
def tw807343201173101678:=Nat
def tw7320293636850755204:=Nat
def tw8906657496897824868:=Nat
def tw8278963195927942413:=Nat
def tw10846105963409695117:=Nat
def tw5652013654280389686:=Nat
def tw15988220767532265341:=Nat
def tw7786186032272640752:=Nat
def tw10403590383014680358:=Nat
def tw16955947608616711531:=Nat
def tw16287468063999218896:=Nat
def tw7713968895167421299:=Nat
def tw11893909006166319259:=Nat
def tw8741593142661953353:=Nat
def tw7293602563535125810:=Nat
def tw5468657093611156851:=Nat
def tw10134547382199287864:=Nat
def tw728022422190872325:=Nat
def tw15789523230298290873:=Nat
def tw15050091071363320550:=Nat
def tw12966912294233356673:=Nat
def tw5473951327659848211:=Nat
def tw6514220949185409764:=Nat
def tw2239042412258877211:=Nat
def tw3591507876400325707:=Nat
def tw286687431519993247:=Nat
def tw10141019689571951816:=Nat
def tw5750442546579997763:=Nat
def tw1663243896421034340:=Nat
def tw12441374373081091962:=Nat
def tw7617490765634643057:=Nat
def tw13209026763760367891:=Nat
def tw14316843465676188639:=Nat
def tw7868782844992373927:=Nat
def tw17637185159539595004:=Nat
def tw4466862265235567987:=Nat
def tw4703571442818056962:=Nat
def tw7846464306256758005:=Nat
def tw4099903107339689861:=Nat
def tw2407685452080336126:=Nat
def tw6712187993031473787:=Nat
def tw11958478741031958822:=Nat
def tw13529920879321320060:=Nat
def tw5958400098097686133:=Nat
def tw13133398256399118298:=Nat
def tw11473250709907455616:=Nat
def tw15316560054666956957:=Nat
def tw11069694932399547887:=Nat
def tw2846110938963226635:=Nat
def tw7625864365860275783:=Nat
def tw14270084235262922953:=Nat
def tw7273123289911798927:=Nat
def tw5023019853646616534:=Nat
def tw3047916968636363486:=Nat
def tw5844241131701464790:=Nat
def tw16158548682284181242:=Nat
def tw15233605865228206936:=Nat
def tw8760645794666194352:=Nat
def tw8070850008199980896:=Nat
def tw6010461994257478542:=Nat
def tw1891771447504021754:=Nat
def tw2940521876332271133:=Nat
def tw2158888207124365041:=Nat
def tw17241895585292971147:=Nat
def tw6723673938172590177:=Nat
def tw10364650837010180146:=Nat
def tw15982353599732899667:=Nat
def tw7625408030205671806:=Nat
def tw3941201044231027483:=Nat
def tw4294384849891776184:=Nat
def tw8401383312265837758:=Nat
def tw8101100642637838354:=Nat
def tw13140590600184740082:=Nat
def tw9453109942357402565:=Nat
def tw13452486884867337523:=Nat
def tw14800313855472112000:=Nat
def tw3817086362411004430:=Nat
def tw17043109844585031861:=Nat
def tw16818757075011955836:=Nat
def tw1053456400857260255:=Nat
def tw13283798131295693963:=Nat
def tw40122392779881823:=Nat
def tw10460462115582752590:=Nat
def tw14739776301931697081:=Nat
def tw4919460424330435280:=Nat
def tw7261222436771821686:=Nat
def tw10234578103890663008:=Nat
def tw8920437993824478412:=Nat
def tw2963305269832377612:=Nat
def tw5553757555460312089:=Nat
def tw8650404425721733448:=Nat
def tw10977217863159281550:=Nat
def tw8205383105033723213:=Nat
def tw18298017726588631291:=Nat
def tw7969201269377065472:=Nat
def tw3230668408617792570:=Nat
def tw2122230605940096161:=Nat
def tw15908623776119020666:=Nat
def tw16626353167038535227:=Nat
def tw12519460791226736947:=Nat
def tw1642051301763288352:=Nat
def tw9246816022793927533:=Nat
def tw18347017209775589326:=Nat
def tw10369466248917578138:=Nat
def tw14747626464077020638:=Nat
def tw10636611546512048983:=Nat
def tw5753781436143676382:=Nat
def tw17743781537502505058:=Nat
def tw4739270240788519774:=Nat
def tw3094355560203127192:=Nat
def tw16193187638813446401:=Nat
def tw3171929176878629739:=Nat
def tw4804310435001663372:=Nat
def tw1816304640580598619:=Nat
def tw16394057530666403210:=Nat
def tw2717169061600354293:=Nat
def tw15697870028283366387:=Nat
def tw17537969004101091133:=Nat
def tw2652619903559819504:=Nat
def tw899581428508334415:=Nat
def tw18039334825348892165:=Nat
def tw2981488658760727500:=Nat
def tw8065709466538854958:=Nat
def tw18241893114017093871:=Nat
def tw3602361708366609193:=Nat
def tw10407804723891026108:=Nat
def tw1029011271448223519:=Nat
def tw11244781858699826731:=Nat
def tw6859621113049289057:=Nat
def tw1888102103035927647:=Nat
def tw905382470489640211:=Nat
def tw4306979487261778652:=Nat
def tw17360742653793372960:=Nat
def tw17027580478868512979:=Nat
def tw11967177259865997061:=Nat
def tw1065064375713175960:=Nat
def tw168913203112080843:=Nat
def tw4972443848837454234:=Nat
def tw1905651655864806264:=Nat
def tw14851260423810274285:=Nat
def tw13512629365923685575:=Nat
def tw3940658427865580755:=Nat
def tw13511375581906902670:=Nat
def tw2010875383270026694:=Nat
def tw10617923485655133612:=Nat
def tw463102453452610340:=Nat
def tw17478839834365405716:=Nat
def tw2011771989232709850:=Nat
def tw8155343028048221836:=Nat
def tw15095205874020530771:=Nat
def tw12710379063963143402:=Nat
def tw3863495765159584997:=Nat
def tw4081930892935537925:=Nat
def tw8643797111823799477:=Nat
def tw8083014434257266918:=Nat
def tw15962453074257917637:=Nat
def tw10989377061394201802:=Nat
def tw17719077770624917315:=Nat
def tw114933128777062570:=Nat
def tw18263024285921548233:=Nat
def tw2134484684622584483:=Nat
def tw1407562868106124354:=Nat
def tw7343200346980496269:=Nat
def tw16788413248149648083:=Nat
def tw15906439286390563666:=Nat
def tw14036841404344900054:=Nat
def tw7988154296026115473:=Nat
def tw7334147993240464343:=Nat
def tw11960848852936678656:=Nat
def tw13998676204846177424:=Nat
def tw4976820525627233685:=Nat
def tw2094573968282756654:=Nat
def tw4292904213455855820:=Nat
def tw12566529693690647676:=Nat
def tw16530657537743248042:=Nat
def tw12478746799983529183:=Nat
def tw11360606987692211681:=Nat
def tw12284021266136099082:=Nat
def tw16793369108233448920:=Nat
def tw13121683883108838874:=Nat
def tw17987647396724835311:=Nat
def tw6041392771876497100:=Nat
def tw2229385824685416763:=Nat
def tw10706682210214281954:=Nat
def tw10585612555683072248:=Nat
def tw17550908706131134957:=Nat
def tw11620752298262923091:=Nat
def tw18115246060943401332:=Nat
def tw11992142191798062059:=Nat
def tw1504521720976612671:=Nat
def tw4888809326575052723:=Nat
def tw6045390132946744825:=Nat
def tw17342417533014287024:=Nat
def tw9509005530108793597:=Nat
def tw12804581716472351458:=Nat
def tw1233359481339047137:=Nat
def tw315013466458032983:=Nat
def tw7157382763835884078:=Nat
def tw7131498444881855870:=Nat
def tw5997419472048228890:=Nat
def tw7935988133262023420:=Nat
def tw16557048142455873553:=Nat
def tw4868326839071851782:=Nat
def tw746753424351552508:=Nat
def tw16562603279319159236:=Nat
def tw7872128232776589242:=Nat
def tw3145035542345439827:=Nat
def tw14185367803148942634:=Nat
def tw14864795255999025727:=Nat
def tw18398883899794131938:=Nat
def tw2514364932975339926:=Nat
def tw7968743761268614414:=Nat
def tw10259119845421094754:=Nat
def tw4901061174898298443:=Nat
def tw1203255134072669846:=Nat
def tw16344291439226058448:=Nat
def tw7586394325117339088:=Nat
def tw2986383091684705131:=Nat
def tw10566751478276569218:=Nat
def tw10734777924978249121:=Nat
def tw17390139227574352644:=Nat
def tw3072217070277633139:=Nat
def tw17080185231832424693:=Nat
def tw17406986656386436000:=Nat
def tw17639789164078014241:=Nat
def tw13351115994137695371:=Nat
def tw18086578917053230743:=Nat
def tw10486097641552819454:=Nat
def tw3511743154338380395:=Nat
def tw13345865445154617718:=Nat
def tw16295319458420709663:=Nat
def tw6991305620486496580:=Nat
def tw4903193893002212204:=Nat
def tw4966853263193090925:=Nat
def tw14149160883853685444:=Nat
def tw7645370808951909768:=Nat
def tw3384648567591620485:=Nat
def tw101406171121081876:=Nat
def tw10994467599470788462:=Nat
def tw18187643807970405234:=Nat
def tw11148655581541311239:=Nat
def tw17629730895389711340:=Nat
def tw15915503213369004051:=Nat
def tw14270061246792613117:=Nat
def tw15023189231196870669:=Nat
def tw2454086054448850342:=Nat
def tw7525038700346160515:=Nat
def tw16883733911325665932:=Nat
def tw6191666184053430422:=Nat
def tw1084763467386746561:=Nat
def tw14650630753326283792:=Nat
def tw4717591549329706627:=Nat
def tw4486733354248116578:=Nat
def tw11425674462225884378:=Nat
def tw10321204197141281047:=Nat
def tw15559735488661433088:=Nat
def tw14924672266779385409:=Nat
def tw1111462387919857583:=Nat
def tw16310926898664548727:=Nat
def tw8740652103695416063:=Nat
def tw11879002856160941024:=Nat
def tw7085163969598150173:=Nat
def tw15739084317788757304:=Nat
def tw1601095503307659543:=Nat
def tw14177071255205832067:=Nat
def tw12304835970816416753:=Nat
def tw15249268133276887425:=Nat
def tw12788930232752197284:=Nat
def tw14573078315025742241:=Nat
def tw3104739368917210858:=Nat
def tw1395632614194275571:=Nat
def tw13884878011797618828:=Nat
def tw9501681774945530450:=Nat
def tw15521071496204003976:=Nat
def tw15472641666742476542:=Nat
def tw3403093284512806751:=Nat
def tw8888768683256641290:=Nat
def tw1439780084061766584:=Nat
def tw9954587410189520458:=Nat
def tw5183594795791184508:=Nat
def tw13518240625093192678:=Nat
def tw15098586314259713990:=Nat
def tw12661552738098806283:=Nat
def tw10184387213546168166:=Nat
def tw12576609062053153450:=Nat
def tw9553631837493967278:=Nat
def tw16188942545672882226:=Nat
def tw2417000631365180156:=Nat
def tw17036009333650776969:=Nat
def tw7313480994305214037:=Nat
def tw6916326595976996442:=Nat
def tw424264207572156275:=Nat
def tw3737893140848004150:=Nat
def tw14026829242036619125:=Nat
def tw273378240007983126:=Nat
def tw1806324442096563187:=Nat
def tw2018976742621061837:=Nat
def tw17976039588159691979:=Nat
def tw15145365474673502526:=Nat
def tw4169752464105498098:=Nat
def tw14113554512548050808:=Nat
def tw5024866727796227708:=Nat
def tw9090663811128866305:=Nat
def tw4558191964085006440:=Nat
def tw7598798694007924734:=Nat
def tw15036457310355039441:=Nat
def tw5092104277613257450:=Nat
def tw6744805382842295150:=Nat
def tw8181146034877844764:=Nat
def tw3094669268983191499:=Nat
def tw1969378353786552745:=Nat
def tw12800901800216514523:=Nat
def tw10828740282819394929:=Nat
def tw4090846606108474479:=Nat
def tw15495876564681679317:=Nat
def tw3402613511695109086:=Nat
def tw10036932018802157597:=Nat
def tw8027986675128813848:=Nat
def tw8956835312211772436:=Nat
def tw11988602334112754462:=Nat
def tw13222059719299267167:=Nat
def tw5977672388155625695:=Nat
def tw12772467211921955568:=Nat
def tw16060457371803941705:=Nat
def tw16854716373519413086:=Nat
def tw15600338445378493652:=Nat
def tw1639081083770217517:=Nat
def tw9924510609208596277:=Nat
def tw3608938161850084492:=Nat
def tw3006443977932601482:=Nat
def tw10842927072717790395:=Nat
def tw14658702513863181563:=Nat
def tw14231862257830986537:=Nat
def tw14147328524079344102:=Nat
def tw693254683371523614:=Nat
def tw5452802467059157440:=Nat
def tw750494371081473636:=Nat
def tw224419123968572843:=Nat
def tw4213815032940880658:=Nat
def tw10836119060189018344:=Nat
def tw908617084130988819:=Nat
def tw5478188603068143530:=Nat
def tw3901477977611119974:=Nat
def tw6877013581655595371:=Nat
def tw2573543698544184890:=Nat
def tw6750403394468292541:=Nat
def tw12927872159657390914:=Nat
def tw2606471336559712282:=Nat
def tw11934136848647634389:=Nat
def tw2732723651091627565:=Nat
def tw488940952793866634:=Nat
def tw2167922943432120932:=Nat
def tw7840642265225844361:=Nat
def tw13855784109768265591:=Nat
def tw13532286034734589281:=Nat
def tw12321696939283839876:=Nat
def tw10374934127551673843:=Nat
def tw6491975351313270734:=Nat
def tw2980143321649738402:=Nat
def tw4769989625221424263:=Nat
def tw17630967857081657256:=Nat
def tw4762155663605426933:=Nat
def tw10455358473182855716:=Nat
def tw15360159820774675941:=Nat
def tw4013584457710969107:=Nat
def tw10565117828495554628:=Nat
def tw5321276266331712704:=Nat
def tw15127749945050471299:=Nat
def tw18418142734754805387:=Nat
def tw16015568275806241963:=Nat
def tw9103251684095164288:=Nat
def tw6563355425996179072:=Nat
def tw7780139785568464810:=Nat
def tw17881128865693801181:=Nat
def tw7384772620762514111:=Nat
def tw9941577995517066061:=Nat
def tw16906487276752637685:=Nat
def tw16227561979549830517:=Nat
def tw7107413655413470278:=Nat
def tw748142382165475823:=Nat
def tw14836709736672522110:=Nat
def tw16509970140993914111:=Nat
def tw6560494485132837250:=Nat
def tw6301166162533457790:=Nat
def tw2508289300876374469:=Nat
def tw12940518325324837892:=Nat
def tw2310349245602137844:=Nat
def tw5044408148883736947:=Nat
def tw13843928795963544352:=Nat
def tw14150883973933346180:=Nat
def tw2973240808681794324:=Nat
def tw6409648250902899945:=Nat
def tw335123516218401617:=Nat
def tw6095440438059913563:=Nat
def tw17698998044954304483:=Nat
def tw13690348485156787568:=Nat
def tw12619769169921922482:=Nat
def tw7063953322976747353:=Nat
def tw3569488328405930995:=Nat
def tw8880271469119081551:=Nat
def tw1104316802921020098:=Nat
def tw10931202318803721874:=Nat
def tw11376789154010220913:=Nat
def tw13972544382867922837:=Nat
def tw4559026761199028104:=Nat
def tw5897940772923978399:=Nat
def tw4691602839734668657:=Nat
def tw3441462816997251461:=Nat
def tw18035258719772671063:=Nat
def tw16356690838972041449:=Nat
def tw9227230278284388473:=Nat
def tw2778801893180653714:=Nat
def tw10298437080585176513:=Nat
def tw7490631004294350917:=Nat
def tw16044418309803744478:=Nat
def tw5519085813665208507:=Nat
def tw7608773155339715099:=Nat
def tw12311365592533940070:=Nat
def tw6038529733356982428:=Nat
def tw16183971205119458285:=Nat
def tw2608210210594771508:=Nat
def tw12250375116990260086:=Nat
def tw5734215656419865217:=Nat
def tw11349017521389891332:=Nat
def tw16720839037512744626:=Nat
def tw367756900425993279:=Nat
def tw16038948690386194742:=Nat
def tw3737686642809006100:=Nat
def tw13196290896085233959:=Nat
def tw15736959786377147950:=Nat
def tw15016980908370594995:=Nat
def tw2613411076046032311:=Nat
def tw1562090545628378813:=Nat
def tw2881270938033796337:=Nat
def tw8084638918106969192:=Nat
def tw16983538619884521790:=Nat
def tw6542151463455351739:=Nat
def tw17737426871312759557:=Nat
def tw1428709573393117153:=Nat
def tw229873880682353349:=Nat
def tw6050898367077991383:=Nat
def tw10075294028653239803:=Nat
def tw12465623586780369672:=Nat
def tw5002023436075103897:=Nat
def tw5436504905194977443:=Nat
def tw152876837647870832:=Nat
def tw10528313113701996849:=Nat
def tw5797432091990433109:=Nat
def tw8517217104272956024:=Nat
def tw16563908121498448526:=Nat
def tw13878894384994191586:=Nat
def tw3471306086319886220:=Nat
def tw13184028340733755665:=Nat
def tw12963950466052564027:=Nat
def tw4006361103415475015:=Nat
def tw13437379131989608622:=Nat
def tw5185472327356065922:=Nat
def tw393727188974986666:=Nat
def tw282746719714753809:=Nat
def tw3634246441324357706:=Nat
def tw12782283243679790994:=Nat
def tw7569895876247983749:=Nat
def tw7431443630016457451:=Nat
def tw1298784076344731244:=Nat
def tw4170339640017265033:=Nat
def tw1062547671634573700:=Nat
def tw13634623385734567339:=Nat
def tw4461339604596363869:=Nat
def tw11409949343154116851:=Nat
def tw16219285893716037703:=Nat
def tw14960908025102045744:=Nat
def tw12152289840700497450:=Nat
def tw3581178618266510408:=Nat
def tw18250578909878692033:=Nat
def tw1034677817702652040:=Nat
def tw10278107467847912597:=Nat
def tw6788695116809821674:=Nat
def tw17371746368249848211:=Nat
def tw4568265348550793182:=Nat
def tw11158364208964603737:=Nat
def tw8052199127131721693:=Nat
def tw2351463862849879195:=Nat
def tw16482490747395426034:=Nat
def tw18298152981119442317:=Nat
def tw12342354997796645518:=Nat
def tw7663934960018748257:=Nat
def tw13626365357623979741:=Nat
def tw7359547635247414485:=Nat
def tw4595805858250007135:=Nat
def tw219199929607877069:=Nat
def tw2691180163243605206:=Nat
def tw9977413649214079602:=Nat
def tw6959990084542018869:=Nat
def tw15163703716694826654:=Nat
def tw10713893998866360632:=Nat
def tw10398349363202575718:=Nat
def tw7772959785844657980:=Nat
def tw12377540604595268750:=Nat
def tw10921223002408540370:=Nat
def tw1589108045173011559:=Nat
def tw16525003156110081368:=Nat
def tw13717055923628170553:=Nat
def tw3566322094615196832:=Nat
def tw18305691937984452421:=Nat
def tw6633349828493259309:=Nat
def tw3362865834568146851:=Nat
def tw15804037961095732662:=Nat
def tw8850848770986573400:=Nat
def tw6264760132081817502:=Nat
def tw13579737920067980133:=Nat
def tw11316296831473064484:=Nat
def tw6938379302470692442:=Nat
def tw16831750143227131494:=Nat
def tw1993303247712794694:=Nat
def tw2662388202737055392:=Nat
def tw9329609393899486224:=Nat
def tw15656898931116870160:=Nat
def tw6583160568781970608:=Nat
def tw79567796515515604:=Nat
def tw15241339518804637737:=Nat
def tw2294685948272892572:=Nat
def tw1233792547639241403:=Nat
def tw12768181784022563935:=Nat
def tw8898721287899049981:=Nat
def tw4770000521904914563:=Nat
def tw12397546398687659434:=Nat
def tw18158000502032138356:=Nat
def tw7146705546204274931:=Nat
def tw8757823483329723460:=Nat
def tw5494454622152980952:=Nat
def tw4024080710556880792:=Nat
def tw12657849071677190124:=Nat
def tw13266777175107192476:=Nat
def tw7441255237121374526:=Nat
def tw2301581419779537735:=Nat
def tw6517740333866019615:=Nat
def tw5771412946608011427:=Nat
end PySem.W.Fast
open PySem PySem.W PyProof.Rows L2 Lw
set_option maxRecDepth 100000 in
set_option maxHeartbeats 0 in
theorem PySem.Challenge.cw_liftwave_k61_whole_one_picture_holds : PySem.Challenge.rw_liftwave_k61_whole_one_picture.Holds := by
 w_on;o_law;k_head;(case hw=>w_witness2)
 k_fill
 refine L2.Ybd (k:=10) (l:=PySem.Challenge.rw_liftwave_k61_whole_one_picture) rfl rfl ⟨rfl,by decide,by decide⟩ (λw h σ=>PySem.W.kIn_of σ) ?F
 case F=>
  intro w mg fa h X G hfa
  have B:L2.BltV mg:=⟨⟨mz X G,mz X G,mz X G,mz X G,mz X G,mz X G,mz X G,mz X G,mz X G,mz X G,mz X G,mz X G⟩,mz X G,mz X G,mz X G,mz X G,mz X G,mz X G,mz X G,mz X G,mz X G,mz X G⟩
  have KV:=L2.KitV.of (Ypm X (by kit_is)) (by kit_is) (by kit_is) (by kit_is) (by kit_is) (by kit_is) (by kit_is) (by kit_is) (by kit_is) (by kit_is) (by kit_is) (by kit_is) (by kit_is) (by kit_is) (by kit_is) (by kit_is) (by kit_is) (by kit_is) (by kit_is) (by kit_is) (by kit_is) (by kit_is) (by kit_is) (by kit_is) (by kit_is) (by kit_is) (by kit_is) (by kit_is) (by kit_is) (by kit_is) (by kit_is) (by kit_is) (by kit_is) (by kit_is) (by kit_is)
  have CV_Walk:=Yor (c := "Walk") (ns:=Lw.Xa5) X (hn:=by simp only[Lw.Xa5,forall_mem_cons];exact⟨by k_is,by k_is,by k_is,by k_is,by k_is,λ_ h=>by cases h⟩) (h1:=by decide +kernel) (h2:=by decide)
  have CV_Reader:=Yor (c := "Reader") (ns:=Lw.Xb3) X (hn:=by simp only[Lw.Xb3,forall_mem_cons];exact⟨by k_is,by k_is,by k_is,λ_ h=>by cases h⟩) (h1:=by decide +kernel) (h2:=by decide)
  have Xiq:∃t,mg "ASKS"=some (.int 0 t):=⟨_,mv X G⟩
  have Xcf:∃t,mg "START"=some (.int 1 t):=⟨_,mv X G⟩
  have Xgo:∃t,mg "END"=some (.int 2 t):=⟨_,mv X G⟩
  have Xio:∃t,mg "SPAN"=some (.int 3 t):=⟨_,mv X G⟩
  have Xe3:∃t,mg "WAKING"=some (.int 0 t):=⟨_,mv X G⟩
  have Xcs:∃t,mg "WAKING_FIRST"=some (.int 1 t):=⟨_,mv X G⟩
  have Xky:∃t,mg "SIGN"=some (.int 2 t):=⟨_,mv X G⟩
  have Xe4:∃t,mg "FIGURE"=some (.int 3 t):=⟨_,mv X G⟩
  have Xk0:∃t,mg "HALF"=some (.int 0 t):=⟨_,mv X G⟩
  have Xp2:∃t,mg "LEFT"=some (.int 1 t):=⟨_,mv X G⟩
  have Xlu:∃t,mg "RIGHT"=some (.int 2 t):=⟨_,mv X G⟩
  have Xu4:∃t,mg "ADD"=some (.int 3 t):=⟨_,mv X G⟩
  have Xlt:∃t,mg "SHIFT"=some (.int 4 t):=⟨_,mv X G⟩
  have Xip:∃t,mg "MOST_LIFTS"=some (.int 6 t):=⟨_,mv X G⟩
  have Xkz:∃t,mg "HIGH"=some (.int 0 t):=⟨_,mv X G⟩
  have Xkx:∃t,mg "WIDE"=some (.int 1 t):=⟨_,mv X G⟩
  have Xer:∃t,mg "LEVELS"=some (.int 2 t):=⟨_,mv X G⟩
  have Xrc:∃t,mg "PLANES"=some (.int 3 t):=⟨_,mv X G⟩
  have Xi4:∃t,mg "LADDER"=some (.int 4 t):=⟨_,mv X G⟩
  have ⟨Xfx,Xrb,Xcg⟩:=Ypp (w:=w) X G (by k_is) (by k_is) (by k_is) (by k_is) (by k_is) (by k_is) (by k_is) (by k_is) (by k_is) (by k_is) (by k_is) (by k_is) (by k_is) (by k_is) (by k_is)
  have D1:=dmk (x := "part_of_one") (st:=Lw.Xg5) X G
  have D2:=dmk (x := "calm_span") (st:=Lw.Xjt) X G
  have D3:=dmk (x := "signed_span") (st:=Lw.Xg4) X G
  have D4:=dmk (x := "figured_span") (st:=Lw.Xf7) X G
  have q5:=Yoq (c := "Walk") (q := "Walk.__init__") (st:=Lw.Xfg) X G
  have ⟨D5,M_Walk⟩:=q5
  have D6:=Xyg (m := "turn") (q := "Walk.turn") (st:=Lw.Xjv) X CV_Walk
  have D7:=Xyg (m := "is_whole") (q := "Walk.is_whole") (st:=Lw.Xff) X CV_Walk
  have D8:=Xyg (m := "asked") (q := "Walk.asked") (st:=Lw.Xid) X CV_Walk
  have D9:=Xyg (m := "spans") (q := "Walk.spans") (st:=Lw.Xic) X CV_Walk
  have D10:=Xyg (m := "follow") (q := "Walk.follow") (st:=Lw.Xha) X CV_Walk
  have D11:=Xyg (m := "take") (q := "Walk.take") (st:=Lw.Xjw) X CV_Walk
  have D12:=Xyg (m := "walk_awake") (q := "Walk.walk_awake") (st:=Lw.Xea) X CV_Walk
  have D13:=Xyg (m := "wake") (q := "Walk.wake") (st:=Lw.Xju) X CV_Walk
  have D14:=Xyg (m := "calm") (q := "Walk.calm") (st:=Lw.Xjx) X CV_Walk
  have D15:=dmk (x := "followed") (st:=Lw.Xlh) X G
  have D16:=dmk (x := "read") (st:=Lw.Xzk) X G
  have D17:=dmk (x := "heights_of") (st:=Lw.Xfw) X G
  have D18:=dmk (x := "planes_of") (st:=Lw.Xjo) X G
  have D19:=dmk (x := "answer") (st:=Lw.Xqm) X G
  have D20:=dmk (x := "told") (st:=Lw.Xzj) X G
  have D21:=dmk (x := "is_number") (st:=Lw.Xjr) X G
  have D22:=dmk (x := "level_of") (st:=Lw.Xlf) X G
  have D23:=dmk (x := "places") (st:=Lw.Xmu) X G
  have D24:=dmk (x := "plus") (st:=Lw.Xzl) X G
  have D25:=dmk (x := "minus") (st:=Lw.Xua) X G
  have D26:=dmk (x := "times") (st:=Lw.Xt9) X G
  have D27:=dmk (x := "halved") (st:=Lw.Xqk) X G
  have D28:=dmk (x := "holds") (st:=Lw.Xuc) X G
  have D29:=dmk (x := "is_lift") (st:=Lw.Xkh) X G
  have D30:=dmk (x := "is_ladder") (st:=Lw.Xg7) X G
  have D31:=dmk (x := "ladder_of") (st:=Lw.Xjq) X G
  have D32:=dmk (x := "neighbours") (st:=Lw.Xia) X G
  have D33:=dmk (x := "lifted_places") (st:=Lw.Xfe) X G
  have D34:=dmk (x := "gain") (st:=Lw.Xzn) X G
  have D35:=dmk (x := "raised") (st:=Lw.Xqi) X G
  have D36:=dmk (x := "lowered") (st:=Lw.Xnn) X G
  have D37:=dmk (x := "gain_span") (st:=Lw.Xjs) X G
  have D38:=dmk (x := "lowered_spans") (st:=Lw.Xfd) X G
  have D39:=dmk (x := "is_row") (st:=Lw.Xmv) X G
  have D40:=dmk (x := "is_picture") (st:=Lw.Xfv) X G
  have D41:=dmk (x := "change_rows") (st:=Lw.Xg9) X G
  have D42:=dmk (x := "change_columns") (st:=Lw.Xdc) X G
  have D43:=dmk (x := "laid") (st:=Lw.Xzm) X G
  have D44:=dmk (x := "opened_by") (st:=Lw.Xjp) X G
  have D45:=Ynj (x := "opened") (st:=Lw.Xqj) X G
  have D46:=Ynj (x := "opened_spans") (st:=Lw.Xf6) X G
  have D47:=dmk (x := "thinned") (st:=Lw.Xkg) X G
  have D48:=dmk (x := "is_part") (st:=Lw.Xno) X G
  have D49:=dmk (x := "is_head") (st:=Lw.Xki) X G
  have D50:=dmk (x := "head_places") (st:=Lw.Xg8) X G
  have D51:=dmk (x := "walk_of") (st:=Lw.Xnm) X G
  have D52:=Ynj (x := "coded") (st:=Lw.Xql) X G
  have D53:=dmk (x := "sheet_of") (st:=Lw.Xi2) X G
  have D54:=dmk (x := "level") (st:=Lw.Xub) X G
  have q55:=Yoq (c := "Reader") (q := "Reader.__init__") (st:=Lw.Xec) X G
  have ⟨D55,M_Reader⟩:=q55
  have D56:=Xyg (m := "feed") (q := "Reader.feed") (st:=Lw.Xhc) X CV_Reader
  have D57:=Xyg (m := "is_whole") (q := "Reader.is_whole") (st:=Lw.Xeb) X CV_Reader
  have D58:=Xyg (m := "spans") (q := "Reader.spans") (st:=Lw.Xf8) X CV_Reader
  have D59:=Xyg (m := "seen") (q := "Reader.seen") (st:=Lw.Xhb) X CV_Reader
  have D60:=dmk (x := "_law_cell_at") (st:=Lw.Xg6) X G
  have D61:=dmk (x := "_law_ladder") (st:=Lw.Xib) X G
  have D62:=dmk (x := "_law_picture") (st:=Lw.Xe2) X G
  have D63:=dmk (x := "_law_bits") (st:=Lw.Xlg) X G
  have D64:=dmk (x := "_law_within") (st:=Lw.Xfu) X G
  have D65:=dmk (x := "law") (st:=Lw.Xxm) X G
  have Xq6:=dnm (x := "level") X G
  have Xda:=dnm (x := "lowered") X G
  have Xbm:=dnm (x := "lowered_spans") X G
  have Xde:=dnm (x := "raised") X G
  have Yfv:=dnm (x := "told") X G
  cases hfa.symm.trans D65.here
  refine Ypl D65 (λs v=>.of_eq rfl) λb KB GB=>?_
  generalize OpenLaw.prog PySem.Challenge.rw_liftwave_k61_whole_one_picture=P
  have Xbu:=Xo4 P w b D60 B KV
  have Xiv:=Xqy P w b D61 B KV Xbu
  have Xhn:=Xo3 P w b D62 B KV
  have Xej:=Yd0 P w b D28 B KV
  have Xco:=Xsw P w b D21 B KV
  have Xrj:=Yay P w b D39 B KV Xco
  have Xiw:=Xqz P w b D40 B KV Xrb Xej Xrj
  have Xj1:=Xsv P w b D31
  have Xoo:=Xx0 P w b D29 B KV Xfx Xco Xej
  have Xei:=Xsx P w b D30 B KV Xip Xoo
  have Xgs:=Xxz P w b D48 B KV Xcg Xco Xej
  have Xd0:=Xxx P w b D47 B KV
  have Xiu:=Xqw P w b D32 B KV
  have Xbt:=Xmn P w b D33 B KV Xiu
  have Xp6:=Yh0 P w b D34 B KV Xlt Xu4 Xp2 Xlu
  have Xi5:=Yav P w b D35 B KV Xk0 Xbt Xp6
  have Xgr:=Xxy P w b D36 B KV Xk0 Xbt Xp6
  have Xvi:=Ydy P w b D25 B KV
  have Xw3:=Yhy P w b D24 B KV
  have Xrh:=Ydx P w b D26 B KV
  have Xrk:=Yaz P w b D27 B KV
  have Xj2:=Xsy P w b D37 B KV Xlt Xp2 Xlu Xu4 Xw3 Xrh Xrk
  have Xcj:=Xmm P w b D38 B KV Xk0 Xbt Xvi Xj2
  have Xc1:=Xo6 P w b D41 B KV Xde Xda Xbm Xi5 Xgr Xcj
  have Xcc:=Xlp P w b D42 B KV Xde Xda Xbm Xi5 Xgr Xcj
  have Yb8:=Yhz P w b D43 B KV Xde Xd0 Xc1 Xcc
  have Xly:=Xun P w b D22 B KV Xq6
  have Xi6:=Yaw P w b D23 B KV Xq6 Xly
  have Xdn:=Xq0 P w b D17 B KV
  have Xj0:=Xst P w b D18 B KV Xdn
  have Xek:=Xsz P w b D2 B KV
  have Xem:=Xs1 P w b D6 B KV CV_Walk
  have Xck:=Xmp P w b D5 M_Walk B KV CV_Walk Xe3 Xek Xem
  have Xba:=Xmo P w b D7 B KV CV_Walk
  have Xrm:=Ya0 P w b D19 B KV Xe4 Xky Xcf Xiq Xgo
  have Xix:=Xq2 P w b D8 B KV CV_Walk
  have Xc2:=Xkr P w b D12 B KV CV_Walk Xe4 Xcf Xgo
  have Xgc:=Xn3 P w b D4 B KV
  have Xhl:=Xo1 P w b D3 B KV
  have Xhm:=Xo2 P w b D1 B KV Xgo Xcf
  have Xel:=Xs0 P w b D13 B KV CV_Walk Xky Xe3 Xcs Xcf Xgo Xio Xhm
  have Xj3:=Xs3 P w b D14 B KV CV_Walk Xcs Xe3 Xiq Xcf Xgo Xek Xel
  have Xen:=Xs2 P w b D11 B KV CV_Walk Xe4 Xiq Xky Xio Yfv Xc2 Xgc Xhl Xel Xj3 Xem
  have Yb6:=Yhw P w b D20 B KV CV_Walk Xck Xdn Xba Xrm Xix Xen
  have Xrl:=Yd1 P w b D52 B KV Xer Xiw Xj1 Xei Xgs Yb8 Xi6 Xj0 Yb6
  have Xlz:=Xuo P w b D63 B KV
  have Xc3:=Xo7 P w b D10 B KV CV_Walk Xba Xen
  have Xfb:=Xup P w b D15 B KV CV_Walk Xck Xc3
  have Xdo:=Xq1 P w b D9 B KV CV_Walk Xio Xgo Xcf
  have Yb7:=Yhx P w b D16 B KV CV_Walk Xfb Xdo Xba
  have Xeh:=Xsu P w b D44 B KV Xd0 Xcc Xc1
  have Xri:=Yax P w b D45 B KV Xda Xeh
  have Xho:=Xo5 P w b D50 B KV Xkz Xkx Xer Xi6
  have Xfa:=Xum P w b D53 B KV Xkx Xkz Xho
  have Xop:=Xx1 P w b D49 B KV Xi4 Xcg Xgs Xei
  have Xgq:=Xxw P w b D51 B KV Xrc Xkz Xkx Xfb
  have Xep:=Xkt P w b D55 M_Reader B KV CV_Reader Xop Xgq
  have Xe6:=Xo9 P w b D56 B KV CV_Walk CV_Reader Xc3 Xgq
  have Xgb:=Xn2 P w b D46 B KV Xbm Xeh
  have Xvj:=Ydz P w b D54 B KV Xi4 Xer Xej Xd0 Xgb Xfa
  have Xgd:=Xn4 P w b D58 B KV CV_Walk CV_Reader Xdo
  have Xe5:=Xo8 P w b D59 B KV CV_Reader Xvj Xgd
  have Xf1:=Xqx P w b D64 B KV
  have Xeo:=Xks P w b D57 B KV CV_Walk CV_Reader Xba
  exact Yks P w b D65 B KV CV_Reader Xbu Xiv Xhn Xrl Xlz Yb7 Xri Xfa Xep Xe6 Xe5 Xf1 Xeo